/- GaugeVolumes of a cask with 1 to 4, 13 or 14 stations. -/
import Derived.Test.YtpidgcmdimjkoaaRG
import Derived.Test.YtpidgcmdimjkoaaSE
set_option linter.unusedVariables false
set_option linter.unusedSimpArgs false
namespace Go.Proofs.Ytpidgcmdimjkoaa
open Go.RowKit
namespace Sy
open Go.RowKit

section
variable {s : ByteArray} {bung dip : Int} {xs : List Int} {O : Obj → Prop} {N : Nat}
theorem okB {l ok} (hs : smallB s N bung = true) : CallOk (pgE s bung dip xs O l ok) (spB N) :=
  ok_spOr (ok_spTrue awake04) (ok_spOr (ok_spSmall rfl rfl hs) (ok_spOr (ok_spCaskR rfl rfl (isName0_rel rfl rfl)) (ok_spOr (ok_spNum (ok_numsG rfl rfl)) (ok_spOr (ok_spList (ok_listG rfl rfl)) (ok_spCask rfl rfl (isName0_rel rfl rfl))))))
theorem radii_ok (hc : CaskOk bung xs N) : ∀ r ∈ radiiV N, ∃ ρ : Nat, Dv (D0 s bung dip xs O) r ρ ∧ 10 ≤ ρ ∧ ρ ≤ 800 := by
  intro r hr
  have h8 := hc.hi
  rcases List.mem_append.1 hr with h | h
  · obtain ⟨k, hk, rfl⟩ := List.mem_map.1 h
    have hk : k < N - 1 := by simpa using hk
    obtain ⟨_, _, a1, a2, _, _, _⟩ := hc.st k (by omega)
    obtain ⟨_, _, b1, b2, _, _, _⟩ := hc.st (k + 1) (by omega)
    refine ⟨(min (xs.getD (k * 3 + 1) 0) (xs.getD ((k + 1) * 3 + 1) 0)).toNat, ?_, by omega, by omega⟩
    rw [show (((min (xs.getD (k * 3 + 1) 0) (xs.getD ((k + 1) * 3 + 1) 0)).toNat : Nat) : Int) = binN 4 (xs.getD (k * 3 + 1) 0) (xs.getD ((k + 1) * 3 + 1) 0) from by show _ = min _ _; omega]
    exact .bin (t := 4) (by decide) (dSt k 1) (dSt (k + 1) 1)
  · obtain ⟨k, hk, rfl⟩ := List.mem_map.1 h
    have hk : k < N - 1 := by simpa using hk
    obtain ⟨_, _, _, _, a1, a2, _⟩ := hc.st k (by omega)
    obtain ⟨_, _, _, _, b1, b2, _⟩ := hc.st (k + 1) (by omega)
    refine ⟨(max (xs.getD (k * 3 + 2) 0) (xs.getD ((k + 1) * 3 + 2) 0)).toNat, ?_, by omega, by omega⟩
    rw [show (((max (xs.getD (k * 3 + 2) 0) (xs.getD ((k + 1) * 3 + 2) 0)).toNat : Nat) : Int) = binN 5 (xs.getD (k * 3 + 2) 0) (xs.getD ((k + 1) * 3 + 2) 0) from by show _ = max _ _; omega]
    exact .bin (t := 5) (by decide) (dSt k 2) (dSt (k + 1) 2)
theorem okD {l ok} (hs : smallB s N bung = true) (hc : CaskOk bung xs N) : CallOk (pgE s bung dip xs O l ok) (spD N) :=
  ok_spOr (okB hs) (ok_spAreas rfl rfl (radii_ok hc))
theorem okL {l ok} (hs : smallB s N bung = true) (hc : CaskOk bung xs N) (h0 : 0 ≤ dip) (h1 : dip ≤ 1600) : CallOk (pgE s bung dip xs O l ok) (spL N) := by
  have h8 := hc.hi
  have h10 := hc.lo
  have e : IntKind.i64.wrap (dip - bung) = dip - bung := IntWalk.i64_in _ (by omega)
  exact ok_spOr (okD hs hc) (ok_spOr (ok_spUp rfl rfl dLv (by omega) (by omega)) (ok_spAreaR rfl rfl (radii_ok hc) dLv (by omega) (by omega)))
theorem dTopV (hc : CaskOk bung xs N) : Dv (D0 s bung dip xs O) topV (2 * bung) := by
  have h8 := hc.hi
  have h10 := hc.lo
  have h : Dv (D0 s bung dip xs O) topV (binN 3 2 bung) := .bin (t := 3) (by decide) (.lit 2) dBung
  rwa [show binN 3 2 bung = 2 * bung from IntWalk.i64_in _ (by omega)] at h
theorem dDipV (hc : CaskOk bung xs N) : Dv (D0 s bung dip xs O) dipV (numE dip 0 (2 * bung)) := by
  have h : Dv (D0 s bung dip xs O) dipV (firstL [0, numE dip 0 (2 * bung)]) := app2 (t := 104) (by decide) (.lit 0) (app3 (t := 103) (by decide) dDip (.lit 0) (dTopV hc))
  rw [firstL_cons0 rfl] at h
  by_cases e : numE dip 0 (2 * bung) = 0
  · rw [e] at h ⊢; exact h
  · rw [firstL_cons1 e] at h; exact h
theorem dBadV (hl : xs.length = N * 3) (hz : (caskS s bung xs).2 ≠ 0) : Dv (D0 s bung dip xs O) (badV N) (caskS s bung xs).2 := by
  have h : Dv (D0 s bung dip xs O) (badV N) (firstL [(caskS s bung xs).2, numE dip 0 0]) := app2 (t := 104) (by decide) (dErr hl) (app3 (t := 103) (by decide) dDip (.lit 0) (.lit 0))
  rwa [firstL_cons1 hz] at h
theorem eq_yes {D : Dn} {a b : Value} {x y : Int} (ha : Dv D a x) (hb : Dv D b y) (h : x = y) : OkF D (0, a, b, true) := ⟨x, y, ha, hb, decide_eq_true h⟩
theorem eq_no {D : Dn} {a b : Value} {x y : Int} (ha : Dv D a x) (hb : Dv D b y) (h : ¬ x = y) : OkF D (0, a, b, false) := ⟨x, y, ha, hb, decide_eq_false h⟩
theorem okVBad (hl : xs.length = N * 3) (hz : (caskS s bung xs).2 ≠ 0) : ∀ f ∈ vBad N, OkF (D0 s bung dip xs O) f := by
  intro f hf
  simp only [vBad, List.mem_cons, List.not_mem_nil, or_false] at hf
  rcases hf with rfl | rfl | rfl
  · exact eq_no (dErr hl) (.lit 0) hz
  · exact eq_no (dBadV hl hz) (.lit 0) hz
  · exact eq_yes (dBadV hl hz) (dErr hl) rfl
theorem okVGood (hl : xs.length = N * 3) (hz : (caskS s bung xs).2 = 0) (hc : CaskOk bung xs N) (h0 : 0 ≤ dip) (h1 : dip ≤ 2 * bung) : ∀ f ∈ vGood N, OkF (D0 s bung dip xs O) f := by
  intro f hf
  simp only [vGood, List.mem_cons, List.not_mem_nil, or_false] at hf
  rcases hf with rfl | rfl | rfl | rfl
  · exact eq_yes (dErr hl) (.lit 0) hz
  · exact eq_yes (dDipV hc) (.lit 0) (numE_yes h0 h1)
  · exact le_yes (.lit 0) dDip h0
  · exact le_yes dDip (dTopV hc) h1
theorem okVLow (hl : xs.length = N * 3) (hz : (caskS s bung xs).2 = 0) (hc : CaskOk bung xs N) (h0 : ¬ 0 ≤ dip) : ∀ f ∈ vLow N, OkF (D0 s bung dip xs O) f := by
  intro f hf
  have e := numE_no (n := dip) (lo := 0) (hi := 2 * bung) (by omega)
  simp only [vLow, List.mem_cons, List.not_mem_nil, or_false] at hf
  rcases hf with rfl | rfl | rfl | rfl
  · exact eq_yes (dErr hl) (.lit 0) hz
  · exact eq_no (dDipV hc) (.lit 0) (by rw [e]; decide)
  · exact le_no (.lit 0) dDip h0
  · exact eq_yes (dDipV hc) (.lit 2) e
theorem okVHigh (hl : xs.length = N * 3) (hz : (caskS s bung xs).2 = 0) (hc : CaskOk bung xs N) (h0 : 0 ≤ dip) (h1 : ¬ dip ≤ 2 * bung) : ∀ f ∈ vHigh N, OkF (D0 s bung dip xs O) f := by
  intro f hf
  have e := numE_no (n := dip) (lo := 0) (hi := 2 * bung) (by omega)
  simp only [vHigh, List.mem_cons, List.not_mem_nil, or_false] at hf
  rcases hf with rfl | rfl | rfl | rfl | rfl
  · exact eq_yes (dErr hl) (.lit 0) hz
  · exact eq_no (dDipV hc) (.lit 0) (by rw [e]; decide)
  · exact le_yes (.lit 0) dDip h0
  · exact le_no dDip (dTopV hc) h1
  · exact eq_yes (dDipV hc) (.lit 2) e
end
/-- a law of a cask and a dip that a run has answered -/
theorem law_win {s : ByteArray} {bung dip : Int} {xs : List Int} {N gs os cap f : Nat} {w : World} {ob : Obj} (hl : xs.length = N * 3) (hw : WinAt gs os xs w) (hob : w.heap[gs]? = some ob) {l : List Fact} {ok} {sp : CallF} (hsp : CallOk (pgE s bung dip xs (fun o => o = ob) l ok) sp)
    (hrun : fstW (evDS (pgE s bung dip xs (fun o => o = ob) l ok) sp 2000 60 (.fn f) [winV N, hDip] (hpW N) 1) = some (.bool true, some (.win (rowV N)))) :
    Calls Try.prog f #[.agg #[.string s, .int .i64 bung, .slice (some ⟨gs, os, none⟩) N cap], .int .i64 dip] w fun e w' => e = .returned (.bool true) ∧ Below w.heap.size w w' := by
  refine Calls.mono (run_win (P := pgE s bung dip xs (fun o => o = ob) l ok) rfl (by kernel_rfl) hsp (by rw [rowV_len, hl]) rowV_den hrun (args' := #[.agg #[.string s, .int .i64 bung, .slice (some ⟨gs, os, none⟩) N cap], .int .i64 dip])
    (LRel.cons (LRel.agg (LRel.cons (.hol (P := pgE s bung dip xs (fun o => o = ob) l ok) (n := 0) rfl rfl (fun _ => rfl)) (LRel.cons (Dv.vrel (P := pgE s bung dip xs (fun o => o = ob) l ok) dBung) (LRel.cons (.osl rfl (.lit (N : Int))) (LRel.nil _))))) (LRel.cons (Dv.vrel (P := pgE s bung dip xs (fun o => o = ob) l ok) dDip) (LRel.nil _))) hw hob rfl) ?_
  rintro e' w' ⟨M', v', rfl, hvr, hwb⟩
  cases hvr
  exact ⟨rfl, hwb⟩
end Sy
end Go.Proofs.Ytpidgcmdimjkoaa
