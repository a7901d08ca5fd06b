/- GaugeDippedBack of any cask, dip and volume between the ends. -/
import Derived.Test.YtpidgcmdimjkoaaVL
import Derived.Test.YtpidgcmdimjkoaaDZ
set_option linter.unusedVariables false
set_option linter.unusedSimpArgs false
namespace Go.Proofs.Ytpidgcmdimjkoaa
open Go.RowKit
namespace Sy
open Go.RowKit

theorem back_nums {bung : Int} {xs : List Int} {N : Nat} (hc : CaskOk bung xs N) {dip vol : Int} (d0 : 0 ≤ dip) (d1 : dip ≤ 2 * bung) (v0 : vLo bung xs N dip ≤ vol) (v1 : vol ≤ vHi bung xs N dip) :
    ((enS bung xs N vol : Int) ≤ dip ∧ dip ≤ (tmS bung xs N vol : Int) - 1 ∧ (tmS bung xs N vol : Int) ≤ 2 * bung + 1) ∧ (vol ≤ vHi bung xs N (enS bung xs N vol : Int) ∧ vLo bung xs N (enS bung xs N vol : Int) ≤ vol) ∧ (vLo bung xs N ((tmS bung xs N vol : Int) - 1) ≤ vol ∧ vol ≤ vHi bung xs N ((tmS bung xs N vol : Int) - 1)) ∧
    (1 ≤ (enS bung xs N vol : Int) → vHi bung xs N ((enS bung xs N vol : Int) - 1) < vol ∧ vLo bung xs N ((enS bung xs N vol : Int) - 1) ≤ vol) ∧ ((tmS bung xs N vol : Int) ≤ 2 * bung → vol < vLo bung xs N (tmS bung xs N vol : Int)) := by
  have h10 := hc.lo
  obtain ⟨E1, E2⟩ := en_spec hc vol
  obtain ⟨T1, T2⟩ := tm_spec hc vol
  have ele := enS_le bung xs N vol
  have tle := tmS_le bung xs N vol
  have hd : ((dip.toNat : Nat) : Int) = dip := by omega
  have e1 : (enS bung xs N vol : Int) ≤ dip := by
    by_cases h : (enS bung xs N vol : Int) ≤ dip
    · exact h
    · have := E1 dip.toNat (by omega)
      rw [hd] at this
      omega
  have e2 : dip ≤ (tmS bung xs N vol : Int) - 1 := by
    by_cases h : dip ≤ (tmS bung xs N vol : Int) - 1
    · exact h
    · have a := T2 (by omega)
      have b := (vLo_up hc (show (tmS bung xs N vol : Int) ≤ dip by omega)).1
      omega
  have t1 := T1 (enS bung xs N vol) (by omega)
  have t2 := T1 (tmS bung xs N vol - 1) (by omega)
  rw [show ((tmS bung xs N vol - 1 : Nat) : Int) = (tmS bung xs N vol : Int) - 1 by omega] at t2
  have t3 := (vLo_up hc e2).2.1
  refine ⟨⟨e1, e2, by omega⟩, ⟨E2 (by omega), t1⟩, ⟨t2, by omega⟩, fun h => ?_, fun h => T2 (by omega)⟩
  have a := E1 (enS bung xs N vol - 1) (by omega)
  rw [show ((enS bung xs N vol - 1 : Nat) : Int) = (enS bung xs N vol : Int) - 1 by omega] at a
  have b := (vLo_up hc (show (enS bung xs N vol : Int) - 1 ≤ (enS bung xs N vol : Int) by omega)).1
  exact ⟨a, by omega⟩
section
variable {s : ByteArray} {bung dip y : Int} {xs : List Int} {O : Obj → Prop} {N : Nat}
theorem dVL (hl : xs.length = N * 3) (h1 : 2 ≤ N) {lv : Value} {m : Int} (h : Dv (D0 s bung dip (xs ++ [y]) O) lv (m - bung)) : Dv (D0 s bung dip (xs ++ [y]) O) (fLo lv N) (vLo bung xs N m) ∧ Dv (D0 s bung dip (xs ++ [y]) O) (fHi lv N) (vHi bung xs N m) := by
  obtain ⟨a, b⟩ := loZ_ag (Ag.app (ys := [y]) hl) (m - bung) (N - 1) (by omega)
  have p := dFLo (N := N) h
  have q := dFHi (N := N) h
  rw [a] at p
  rw [b] at q
  exact ⟨p, q⟩
theorem dHBy (hl : xs.length = N * 3) : Dv (D0 s bung dip (xs ++ [y]) O) (hBy N) y := by
  refine .hole ?_
  show Value.int .i64 ((xs ++ [y]).getD (N * 3) 0) = _
  rw [List.getD_eq_getElem?_getD, List.getElem?_append_right (by omega), show N * 3 - xs.length = 0 by omega]
  rfl
theorem v_bd (hc : CaskOk bung xs N) (m : Int) : (0 ≤ vLo bung xs N m ∧ vLo bung xs N m ≤ 1000000) ∧ (0 ≤ vHi bung xs N m ∧ vHi bung xs N m ≤ 1000000) := ends_bd hc (m - bung)
def bB (bung : Int) (xs : List Int) (N : Nat) (dip : Int) : Int := vHi bung xs N dip - vLo bung xs N dip + 1
def vB (bung : Int) (xs : List Int) (N : Nat) (dip y : Int) : Int := vLo bung xs N dip + y % bB bung xs N dip
theorem vB_in (hc : CaskOk bung xs N) : vLo bung xs N dip ≤ vB bung xs N dip y ∧ vB bung xs N dip y ≤ vHi bung xs N dip := by
  have h := (vLo_up hc (Int.le_refl dip)).2.2
  have h1 := Int.emod_nonneg y (show bB bung xs N dip ≠ 0 by unfold bB; omega)
  have h2 := Int.emod_lt_of_pos y (show 0 < bB bung xs N dip by unfold bB; omega)
  unfold vB
  unfold bB at h1 h2 ⊢
  omega
theorem dBv (hl : xs.length = N * 3) (hc : CaskOk bung xs N) (d0 : 0 ≤ dip) (d1 : dip ≤ 2 * bung) : Dv (D0 s bung dip (xs ++ [y]) O) (bvT N) (bB bung xs N dip) := by
  obtain ⟨p, q⟩ := dVL (y := y) hl hc.two (dLvA (s := s) (O := O) (hc.ag (Ag.app (ys := [y]) hl)) d0 d1)
  have b := v_bd hc dip
  have h : Dv (D0 s bung dip (xs ++ [y]) O) (bvT N) (binN 1 (binN 2 (vHi bung xs N dip) (vLo bung xs N dip)) 1) := .bin (t := 1) (by decide) (.bin (t := 2) (by decide) q p) (.lit 1)
  rwa [show binN 1 (binN 2 (vHi bung xs N dip) (vLo bung xs N dip)) 1 = bB bung xs N dip from by
    show IntKind.i64.wrap (IntKind.i64.wrap (_ - _) + 1) = _
    rw [IntWalk.i64_in (vHi bung xs N dip - _) (by omega), IntWalk.i64_in _ (by omega)]
    rfl] at h
theorem dVolT (hl : xs.length = N * 3) (hc : CaskOk bung xs N) (d0 : 0 ≤ dip) (d1 : dip ≤ 2 * bung) : Dv (D0 s bung dip (xs ++ [y]) O) (volT N) (vB bung xs N dip y) := by
  obtain ⟨p, q⟩ := dVL (y := y) hl hc.two (dLvA (s := s) (O := O) (hc.ag (Ag.app (ys := [y]) hl)) d0 d1)
  have b := v_bd hc dip
  have c := vB_in (dip := dip) (y := y) hc
  have hm : Dv (D0 s bung dip (xs ++ [y]) O) (modT N) (y % bB bung xs N dip) := app2 (t := 107) (by decide) (dHBy hl) (dBv hl hc d0 d1)
  have h : Dv (D0 s bung dip (xs ++ [y]) O) (volT N) (binN 1 (vLo bung xs N dip) (y % bB bung xs N dip)) := .bin (t := 1) (by decide) p hm
  rwa [show binN 1 (vLo bung xs N dip) (y % bB bung xs N dip) = vB bung xs N dip y from by
    show IntKind.i64.wrap (vB bung xs N dip y) = _
    rw [IntWalk.i64_in _ (by omega)]] at h
/-- what the four dips are -/
def kZ (bung : Int) (xs : List Int) (N : Nat) (vol : Int) : Nat → Int
  | 0 => (enS bung xs N vol : Int) - 1
  | 1 => (enS bung xs N vol : Int)
  | 2 => (tmS bung xs N vol : Int) - 1
  | _ => (tmS bung xs N vol : Int)
theorem kZ_bd (hc : CaskOk bung xs N) (vol : Int) : ∀ i, -1 ≤ kZ bung xs N vol i ∧ kZ bung xs N vol i ≤ 2 * bung + 1 := by
  intro i
  have h10 := hc.lo
  have ele := enS_le bung xs N vol
  have tle := tmS_le bung xs N vol
  match i with
  | 0 => show -1 ≤ (enS bung xs N vol : Int) - 1 ∧ (enS bung xs N vol : Int) - 1 ≤ _; omega
  | 1 => show -1 ≤ (enS bung xs N vol : Int) ∧ (enS bung xs N vol : Int) ≤ _; omega
  | 2 => show -1 ≤ (tmS bung xs N vol : Int) - 1 ∧ (tmS bung xs N vol : Int) - 1 ≤ _; omega
  | i + 3 => show -1 ≤ (tmS bung xs N vol : Int) ∧ (tmS bung xs N vol : Int) ≤ _; omega
theorem dKD (hl : xs.length = N * 3) (hc : CaskOk bung xs N) (d0 : 0 ≤ dip) (d1 : dip ≤ 2 * bung) : ∀ i, Dv (D0 s bung dip (xs ++ [y]) O) (kD N i) (kZ bung xs N (vB bung xs N dip y) i) := by
  intro i
  have h8 := hc.hi
  have h10 := hc.lo
  have hag := Ag.app (ys := [y]) hl
  have hlN : xs.length / 3 = N := by omega
  have dv := dVolT (s := s) (O := O) (y := y) hl hc d0 d1
  have ele := enS_le bung xs N (vB bung xs N dip y)
  have tle := tmS_le bung xs N (vB bung xs N dip y)
  have a := dSeek hl hag dv 122 (by decide)
  have b := dSeek hl hag dv 123 (by decide)
  rw [show intG s 122 (bung :: vB bung xs N dip y :: xs) = (enS bung xs N (vB bung xs N dip y) : Int) from by show (enS bung xs (xs.length / 3) _ : Int) = _; rw [hlN]] at a
  rw [show intG s 123 (bung :: vB bung xs N dip y :: xs) = (tmS bung xs N (vB bung xs N dip y) : Int) - 1 from by show (tmS bung xs (xs.length / 3) _ : Int) - 1 = _; rw [hlN]] at b
  match i with
  | 0 =>
    have h : Dv (D0 s bung dip (xs ++ [y]) O) (kD N 0) (binN 2 (enS bung xs N (vB bung xs N dip y) : Int) 1) := .bin (t := 2) (by decide) a (.lit 1)
    rwa [show binN 2 (enS bung xs N (vB bung xs N dip y) : Int) 1 = kZ bung xs N (vB bung xs N dip y) 0 from IntWalk.i64_in _ (by omega)] at h
  | 1 => exact a
  | 2 => exact b
  | i + 3 =>
    have h : Dv (D0 s bung dip (xs ++ [y]) O) (kD N (i + 3)) (binN 1 ((tmS bung xs N (vB bung xs N dip y) : Int) - 1) 1) := .bin (t := 1) (by decide) b (.lit 1)
    rwa [show binN 1 ((tmS bung xs N (vB bung xs N dip y) : Int) - 1) 1 = kZ bung xs N (vB bung xs N dip y) (i + 3) from by
      show IntKind.i64.wrap ((tmS bung xs N (vB bung xs N dip y) : Int) - 1 + 1) = (tmS bung xs N (vB bung xs N dip y) : Int)
      rw [IntWalk.i64_in _ (by omega)]; omega] at h
theorem dLvK (hl : xs.length = N * 3) (hc : CaskOk bung xs N) (d0 : 0 ≤ dip) (d1 : dip ≤ 2 * bung) (i : Nat) : Dv (D0 s bung dip (xs ++ [y]) O) (lvK N i) (kZ bung xs N (vB bung xs N dip y) i - bung) := by
  have h8 := hc.hi
  have h10 := hc.lo
  have b := kZ_bd hc (vB bung xs N dip y) i
  have h : Dv (D0 s bung dip (xs ++ [y]) O) (lvK N i) (binN 2 (kZ bung xs N (vB bung xs N dip y) i) bung) := .bin (t := 2) (by decide) (dKD hl hc d0 d1 i) dBung
  rwa [show binN 2 (kZ bung xs N (vB bung xs N dip y) i) bung = kZ bung xs N (vB bung xs N dip y) i - bung from IntWalk.i64_in _ (by omega)] at h
theorem okKB {l ok} (hs : smallB s N bung = true) (hl : xs.length = N * 3) (hc : CaskOk bung xs N) (d0 : 0 ≤ dip) (d1 : dip ≤ 2 * bung) : CallOk (pgE s bung dip (xs ++ [y]) O l ok) (spKB N) := by
  have h8 := hc.hi
  have h10 := hc.lo
  have b := v_bd hc dip
  have c := (vLo_up hc (Int.le_refl dip)).2.2
  have hcz := hc.ag (Ag.app (ys := [y]) hl)
  exact ok_spOr (okDB hs) (ok_spOr (ok_spMod rfl rfl (dBv hl hc d0 d1) (by unfold bB; omega) (by unfold bB; omega)) (ok_spOr (ok_spNum (ok_numsT rfl rfl)) (ok_spOr (ok_spList (ok_listG rfl rfl)) (ok_spOr (ok_spCask rfl rfl (isName0_rel rfl rfl)) (ok_spOr (ok_spAreas rfl rfl (radii_ok hcz)) (ok_spUp rfl rfl (dLvA hcz d0 d1) (by omega) (by omega)))))))
theorem okK {l ok} (hs : smallB s N bung = true) (hN : N = 2 ∨ N = 3 ∨ N = 4) (hl : xs.length = N * 3) (hz : (caskS s bung xs).2 = 0) (hc : CaskOk bung xs N) (d0 : 0 ≤ dip) (d1 : dip ≤ 2 * bung) (h : vB bung xs N dip y ≤ 100000) : CallOk (pgE s bung dip (xs ++ [y]) O l ok) (spK N) := by
  have h8 := hc.hi
  have h10 := hc.lo
  have c := vB_in (dip := dip) (y := y) hc
  have b := v_bd hc dip
  have n := back_nums hc d0 d1 c.1 c.2
  have q := kZ_bd hc (vB bung xs N dip y)
  have q0 := q 0
  have q1 := q 1
  have q2 := q 2
  have q3 := q 3
  exact ok_spOr (ok_spDip rfl rfl hN hl (Ag.app hl) (dVolT hl hc d0 d1) hz (by omega) h (decide_eq_false (by omega))) (ok_spOr (okKB hs hl hc d0 d1) (ok_spOr (ok_spUp rfl rfl (dLvK hl hc d0 d1 0) (by omega) (by omega)) (ok_spOr (ok_spUp rfl rfl (dLvK hl hc d0 d1 1) (by omega) (by omega)) (ok_spOr (ok_spUp rfl rfl (dLvK hl hc d0 d1 2) (by omega) (by omega)) (ok_spUp rfl rfl (dLvK hl hc d0 d1 3) (by omega) (by omega))))))
theorem dDipZ (hc : CaskOk bung xs N) (hl : xs.length = N * 3) {d : Value} {z : Int} (hd : Dv (D0 s bung dip (xs ++ [y]) O) d z) (h0 : 0 ≤ z) (h1 : z ≤ 2 * bung) : Dv (D0 s bung dip (xs ++ [y]) O) (dipW d) 0 := dDipW (hc.ag (Ag.app (ys := [y]) hl)) hd h0 h1
theorem okKG (hl : xs.length = N * 3) (hz : (caskS s bung xs).2 = 0) (hc : CaskOk bung xs N) (d0 : 0 ≤ dip) (d1 : dip ≤ 2 * bung) : ∀ f ∈ kG N, OkF (D0 s bung dip (xs ++ [y]) O) f := by
  obtain ⟨p, q⟩ := dVL (y := y) hl hc.two (dLvA (s := s) (O := O) (hc.ag (Ag.app (ys := [y]) hl)) d0 d1)
  have b := v_bd hc dip
  have c := (vLo_up hc (Int.le_refl dip)).2.2
  intro f hf
  simp only [kG, List.mem_cons, List.not_mem_nil, or_false] at hf
  rcases hf with rfl | rfl | rfl | rfl | rfl | rfl
  · exact eq_yes (dErrX' hl) (.lit 0) hz
  · exact le_yes (.lit 0) dDip d0
  · exact le_yes dDip (dTopV (hc.ag (Ag.app (ys := [y]) hl))) d1
  · exact eq_yes (dDipZ hc hl dDip d0 d1) (.lit 0) rfl
  · exact lt_no q p (by omega)
  · exact lt_no p (.lit 0) (by omega)
  where dErrX' {s : ByteArray} {bung dip y : Int} {xs : List Int} {O : Obj → Prop} {N : Nat} (hl : xs.length = N * 3) : Dv (D0 s bung dip (xs ++ [y]) O) (errV N) (caskS s bung xs).2 := dErrG hl (Ag.app hl)
theorem okKAll {a b : Bool} (hl : xs.length = N * 3) (hz : (caskS s bung xs).2 = 0) (hc : CaskOk bung xs N) (d0 : 0 ≤ dip) (d1 : dip ≤ 2 * bung) (h : vB bung xs N dip y ≤ 100000)
    (ha : decide (1 ≤ (enS bung xs N (vB bung xs N dip y) : Int)) = a) (hb : decide ((tmS bung xs N (vB bung xs N dip y) : Int) ≤ 2 * bung) = b) : ∀ f ∈ kAll N a b, OkF (D0 s bung dip (xs ++ [y]) O) f := by
  have h8 := hc.hi
  have h10 := hc.lo
  have hcz := hc.ag (Ag.app (ys := [y]) hl)
  have c := vB_in (dip := dip) (y := y) hc
  obtain ⟨⟨n1, n2, n3⟩, ⟨n4, n5⟩, ⟨n6, n7⟩, n8, n9⟩ := back_nums hc d0 d1 c.1 c.2
  have dv := dVolT (s := s) (O := O) (y := y) hl hc d0 d1
  have dk := dKD (s := s) (O := O) (y := y) hl hc d0 d1
  have dl := fun i => dVL (s := s) (O := O) (y := y) hl hc.two (dLvK (s := s) (O := O) (y := y) hl hc d0 d1 i)
  have dt : Dv (D0 s bung dip (xs ++ [y]) O) topV (2 * bung) := dTopV hcz
  intro f hf
  simp only [kAll, List.mem_append] at hf
  rcases hf with hf | hf | hf | hf | hf | hf
  · exact okKG hl hz hc d0 d1 f hf
  · simp only [kS, List.mem_cons, List.not_mem_nil, or_false] at hf
    rcases hf with rfl | rfl | rfl | rfl | rfl
    · exact lt_no (.lit 100000) dv (by omega)
    · exact le_yes (dk 1) dDip n1
    · exact le_yes dDip (dk 2) n2
    · exact lt_no (dk 1) (.lit 0) (by show ¬ (enS bung xs N (vB bung xs N dip y) : Int) < 0; omega)
    · exact lt_no dt (dk 2) (by show ¬ 2 * bung < (tmS bung xs N (vB bung xs N dip y) : Int) - 1; omega)
  · cases a with
    | true =>
      have e := of_decide_eq_true ha
      have g := n8 e
      have hf : f ∈ [((2 : Nat), Value.int .i64 0, kD N 0, true), (2, kD N 0, topV, true), (0, dipW (kD N 0), .int .i64 0, true), (2, fLo (lvK N 0) N, volT N, true), (2, volT N, fHi (lvK N 0) N, false)] := hf
      simp only [List.mem_cons, List.not_mem_nil, or_false] at hf
      have z : kZ bung xs N (vB bung xs N dip y) 0 = (enS bung xs N (vB bung xs N dip y) : Int) - 1 := rfl
      rcases hf with rfl | rfl | rfl | rfl | rfl
      · exact le_yes (.lit 0) (dk 0) (by rw [z]; omega)
      · exact le_yes (dk 0) dt (by rw [z]; omega)
      · exact eq_yes (dDipZ hc hl (dk 0) (by rw [z]; omega) (by rw [z]; omega)) (.lit 0) rfl
      · exact le_yes (dl 0).1 dv g.2
      · exact le_no dv (dl 0).2 (Int.not_le.2 g.1)
    | false =>
      have e := of_decide_eq_false ha
      have hf : f ∈ [((2 : Nat), Value.int .i64 0, kD N 0, false)] := hf
      simp only [List.mem_cons, List.not_mem_nil, or_false] at hf
      subst hf
      exact le_no (.lit 0) (dk 0) (by show ¬ 0 ≤ (enS bung xs N (vB bung xs N dip y) : Int) - 1; omega)
  · simp only [k1, List.mem_cons, List.not_mem_nil, or_false] at hf
    have z : kZ bung xs N (vB bung xs N dip y) 1 = (enS bung xs N (vB bung xs N dip y) : Int) := rfl
    rcases hf with rfl | rfl | rfl | rfl | rfl
    · exact le_yes (.lit 0) (dk 1) (by rw [z]; omega)
    · exact le_yes (dk 1) dt (by rw [z]; omega)
    · exact eq_yes (dDipZ hc hl (dk 1) (by rw [z]; omega) (by rw [z]; omega)) (.lit 0) rfl
    · exact le_yes (dl 1).1 dv n5
    · exact le_yes dv (dl 1).2 n4
  · simp only [k1, List.mem_cons, List.not_mem_nil, or_false] at hf
    have z : kZ bung xs N (vB bung xs N dip y) 2 = (tmS bung xs N (vB bung xs N dip y) : Int) - 1 := rfl
    rcases hf with rfl | rfl | rfl | rfl | rfl
    · exact le_yes (.lit 0) (dk 2) (by rw [z]; omega)
    · exact le_yes (dk 2) dt (by rw [z]; omega)
    · exact eq_yes (dDipZ hc hl (dk 2) (by rw [z]; omega) (by rw [z]; omega)) (.lit 0) rfl
    · exact le_yes (dl 2).1 dv n6
    · exact le_yes dv (dl 2).2 n7
  · have z : kZ bung xs N (vB bung xs N dip y) 3 = (tmS bung xs N (vB bung xs N dip y) : Int) := rfl
    cases b with
    | true =>
      have e := of_decide_eq_true hb
      have hf : f ∈ [((2 : Nat), Value.int .i64 0, kD N 3, true), (2, kD N 3, topV, true), (0, dipW (kD N 3), .int .i64 0, true), (2, fLo (lvK N 3) N, volT N, false)] := hf
      simp only [List.mem_cons, List.not_mem_nil, or_false] at hf
      rcases hf with rfl | rfl | rfl | rfl
      · exact le_yes (.lit 0) (dk 3) (by rw [z]; omega)
      · exact le_yes (dk 3) dt (by rw [z]; omega)
      · exact eq_yes (dDipZ hc hl (dk 3) (by rw [z]; omega) (by rw [z]; omega)) (.lit 0) rfl
      · exact le_no (dl 3).1 dv (Int.not_le.2 (n9 e))
    | false =>
      have e := of_decide_eq_false hb
      have hf : f ∈ [((2 : Nat), Value.int .i64 0, kD N 3, true), (2, kD N 3, topV, false)] := hf
      simp only [List.mem_cons, List.not_mem_nil, or_false] at hf
      rcases hf with rfl | rfl
      · exact le_yes (.lit 0) (dk 3) (by rw [z]; omega)
      · exact le_no (dk 3) dt (by rw [z]; omega)
theorem okKBig (hl : xs.length = N * 3) (hz : (caskS s bung xs).2 = 0) (hc : CaskOk bung xs N) (d0 : 0 ≤ dip) (d1 : dip ≤ 2 * bung) (h : ¬ vB bung xs N dip y ≤ 100000) : ∀ f ∈ kG N ++ kBig N, OkF (D0 s bung dip (xs ++ [y]) O) f := by
  have dv := dVolT (s := s) (O := O) (y := y) hl hc d0 d1
  have e := numE_no (n := vB bung xs N dip y) (lo := 0) (hi := 100000) (by omega)
  have g : Dv (D0 s bung dip (xs ++ [y]) O) (bigT N) (firstL [0, numE (vB bung xs N dip y) 0 100000]) := app2 (t := 104) (by decide) (.lit 0) (app3 (t := 103) (by decide) dv (.lit 0) (.lit 100000))
  rw [firstL_cons0 rfl, firstL_cons1 (by rw [e]; decide), e] at g
  intro f hf
  rcases List.mem_append.1 hf with hf | hf
  · exact okKG hl hz hc d0 d1 f hf
  · simp only [kBig, List.mem_cons, List.not_mem_nil, or_false] at hf
    rcases hf with rfl | rfl | rfl
    · exact eq_no g (.lit 0) (by decide)
    · exact eq_yes g (.lit 2) rfl
    · exact lt_yes (.lit 100000) dv (by omega)
theorem okKLow (hl : xs.length = N * 3) (hz : (caskS s bung xs).2 = 0) (h0 : ¬ 0 ≤ dip) : ∀ f ∈ kLow N, OkF (D0 s bung dip (xs ++ [y]) O) f := by
  intro f hf
  simp only [kLow, List.mem_cons, List.not_mem_nil, or_false] at hf
  rcases hf with rfl | rfl
  · exact eq_yes (dErrG hl (Ag.app hl)) (.lit 0) hz
  · exact le_no (.lit 0) dDip h0
theorem okKHigh (hl : xs.length = N * 3) (hz : (caskS s bung xs).2 = 0) (hc : CaskOk bung xs N) (h0 : 0 ≤ dip) (h1 : ¬ dip ≤ 2 * bung) : ∀ f ∈ kHigh N, OkF (D0 s bung dip (xs ++ [y]) O) f := by
  intro f hf
  simp only [kHigh, List.mem_cons, List.not_mem_nil, or_false] at hf
  rcases hf with rfl | rfl | rfl
  · exact eq_yes (dErrG hl (Ag.app hl)) (.lit 0) hz
  · exact le_yes (.lit 0) dDip h0
  · exact le_no dDip (dTopV (hc.ag (Ag.app (ys := [y]) hl))) h1
theorem okKBad (hl : xs.length = N * 3) (hz : (caskS s bung xs).2 ≠ 0) : ∀ f ∈ kBad N, OkF (D0 s bung dip (xs ++ [y]) O) f := by
  intro f hf
  simp only [kBad, List.mem_cons, List.not_mem_nil, or_false] at hf
  subst hf
  exact eq_no (dErrG hl (Ag.app hl)) (.lit 0) hz
end
/-- a law of a cask and two numbers that a run has answered -/
theorem law_winY {s : ByteArray} {bung dip y : Int} {xs : List Int} {N gs os cap f : Nat} {w : World} {ob : Obj} (hl : xs.length = N * 3) (hw : WinAt gs os xs w) (hob : w.heap[gs]? = some ob) {l : List Fact} {ok} {sp : CallF} (hsp : CallOk (pgE s bung dip (xs ++ [y]) (fun o => o = ob) l ok) sp)
    (hrun : fstW (evDS (pgE s bung dip (xs ++ [y]) (fun o => o = ob) l ok) sp 2000 60 (.fn f) [winV N, hDip, hBy N] (hpW N) 1) = some (.bool true, some (.win (rowV N)))) :
    Calls Try.prog f #[.agg #[.string s, .int .i64 bung, .slice (some ⟨gs, os, none⟩) N cap], .int .i64 dip, .int .i64 y] w fun e w' => e = .returned (.bool true) ∧ Below w.heap.size w w' := by
  refine Calls.mono (run_win (P := pgE s bung dip (xs ++ [y]) (fun o => o = ob) l ok) rfl (by kernel_rfl) hsp (by rw [rowV_len, hl]) (rowV_denG hl (Ag.app hl)) hrun (args' := #[.agg #[.string s, .int .i64 bung, .slice (some ⟨gs, os, none⟩) N cap], .int .i64 dip, .int .i64 y])
    (LRel.cons (LRel.agg (LRel.cons (.hol (P := pgE s bung dip (xs ++ [y]) (fun o => o = ob) l ok) (n := 0) rfl rfl (fun _ => rfl)) (LRel.cons (Dv.vrel (P := pgE s bung dip (xs ++ [y]) (fun o => o = ob) l ok) dBung) (LRel.cons (.osl rfl (.lit (N : Int))) (LRel.nil _)))))
      (LRel.cons (Dv.vrel (P := pgE s bung dip (xs ++ [y]) (fun o => o = ob) l ok) dDip) (LRel.cons (Dv.vrel (P := pgE s bung dip (xs ++ [y]) (fun o => o = ob) l ok) (dHBy hl)) (LRel.nil _)))) hw hob rfl) ?_
  rintro e' w' ⟨M', v', rfl, hvr, hwb⟩
  cases hvr
  exact ⟨rfl, hwb⟩
theorem back_win (s : ByteArray) (bung dip y : Int) (xs : List Int) (N gs os cap : Nat) (w : World) (hN : N = 1 ∨ N = 2 ∨ N = 3 ∨ N = 4 ∨ N = 13 ∨ N = 14) (hl : xs.length = N * 3) (hw : WinAt gs os xs w) (hs : smallB s N bung = true) :
    Calls Try.prog 5 #[.agg #[.string s, .int .i64 bung, .slice (some ⟨gs, os, none⟩) N cap], .int .i64 dip, .int .i64 y] w fun e w' => e = .returned (.bool true) ∧ Below w.heap.size w w' := by
  obtain ⟨ob, hob⟩ : ∃ ob, w.heap[gs]? = some ob := by obtain ⟨c, e, f, h, _⟩ := hw; exact ⟨_, h⟩
  by_cases hz : (caskS s bung xs).2 = 0
  · have hc := caskS_ok hl hz
    have h2 := hc.two
    have h12 := hc.twelve
    have hN : N = 2 ∨ N = 3 ∨ N = 4 := by omega
    by_cases h0 : 0 ≤ dip
    · by_cases h1 : dip ≤ 2 * bung
      · by_cases hv : vB bung xs N dip y ≤ 100000
        · cases ha : decide (1 ≤ (enS bung xs N (vB bung xs N dip y) : Int)) <;> cases hb : decide ((tmS bung xs N (vB bung xs N dip y) : Int) ≤ 2 * bung)
          · rcases hN with rfl | rfl | rfl
            · exact law_winY hl hw hob (okK hs (by omega) hl hz hc h0 h1 hv) (kRun2_false_false s bung dip _ _ (okKAll hl hz hc h0 h1 hv ha hb))
            · exact law_winY hl hw hob (okK hs (by omega) hl hz hc h0 h1 hv) (kRun3_false_false s bung dip _ _ (okKAll hl hz hc h0 h1 hv ha hb))
            · exact law_winY hl hw hob (okK hs (by omega) hl hz hc h0 h1 hv) (kRun4_false_false s bung dip _ _ (okKAll hl hz hc h0 h1 hv ha hb))
          · rcases hN with rfl | rfl | rfl
            · exact law_winY hl hw hob (okK hs (by omega) hl hz hc h0 h1 hv) (kRun2_false_true s bung dip _ _ (okKAll hl hz hc h0 h1 hv ha hb))
            · exact law_winY hl hw hob (okK hs (by omega) hl hz hc h0 h1 hv) (kRun3_false_true s bung dip _ _ (okKAll hl hz hc h0 h1 hv ha hb))
            · exact law_winY hl hw hob (okK hs (by omega) hl hz hc h0 h1 hv) (kRun4_false_true s bung dip _ _ (okKAll hl hz hc h0 h1 hv ha hb))
          · rcases hN with rfl | rfl | rfl
            · exact law_winY hl hw hob (okK hs (by omega) hl hz hc h0 h1 hv) (kRun2_true_false s bung dip _ _ (okKAll hl hz hc h0 h1 hv ha hb))
            · exact law_winY hl hw hob (okK hs (by omega) hl hz hc h0 h1 hv) (kRun3_true_false s bung dip _ _ (okKAll hl hz hc h0 h1 hv ha hb))
            · exact law_winY hl hw hob (okK hs (by omega) hl hz hc h0 h1 hv) (kRun4_true_false s bung dip _ _ (okKAll hl hz hc h0 h1 hv ha hb))
          · rcases hN with rfl | rfl | rfl
            · exact law_winY hl hw hob (okK hs (by omega) hl hz hc h0 h1 hv) (kRun2_true_true s bung dip _ _ (okKAll hl hz hc h0 h1 hv ha hb))
            · exact law_winY hl hw hob (okK hs (by omega) hl hz hc h0 h1 hv) (kRun3_true_true s bung dip _ _ (okKAll hl hz hc h0 h1 hv ha hb))
            · exact law_winY hl hw hob (okK hs (by omega) hl hz hc h0 h1 hv) (kRun4_true_true s bung dip _ _ (okKAll hl hz hc h0 h1 hv ha hb))
        · rcases hN with rfl | rfl | rfl
          · exact law_winY hl hw hob (okKB hs hl hc h0 h1) (kBig2_run s bung dip _ _ (okKBig hl hz hc h0 h1 hv))
          · exact law_winY hl hw hob (okKB hs hl hc h0 h1) (kBig3_run s bung dip _ _ (okKBig hl hz hc h0 h1 hv))
          · exact law_winY hl hw hob (okKB hs hl hc h0 h1) (kBig4_run s bung dip _ _ (okKBig hl hz hc h0 h1 hv))
      · rcases hN with rfl | rfl | rfl
        · exact law_winY hl hw hob (okDB hs) (kHigh2_run s bung dip _ _ (okKHigh hl hz hc h0 h1))
        · exact law_winY hl hw hob (okDB hs) (kHigh3_run s bung dip _ _ (okKHigh hl hz hc h0 h1))
        · exact law_winY hl hw hob (okDB hs) (kHigh4_run s bung dip _ _ (okKHigh hl hz hc h0 h1))
    · rcases hN with rfl | rfl | rfl
      · exact law_winY hl hw hob (okDB hs) (kLow2_run s bung dip _ _ (okKLow hl hz h0))
      · exact law_winY hl hw hob (okDB hs) (kLow3_run s bung dip _ _ (okKLow hl hz h0))
      · exact law_winY hl hw hob (okDB hs) (kLow4_run s bung dip _ _ (okKLow hl hz h0))
  · rcases hN with rfl | rfl | rfl | rfl | rfl | rfl
    · exact law_winY hl hw hob (okDB hs) (kBad1_run s bung dip _ _ (okKBad hl hz))
    · exact law_winY hl hw hob (okDB hs) (kBad2_run s bung dip _ _ (okKBad hl hz))
    · exact law_winY hl hw hob (okDB hs) (kBad3_run s bung dip _ _ (okKBad hl hz))
    · exact law_winY hl hw hob (okDB hs) (kBad4_run s bung dip _ _ (okKBad hl hz))
    · exact law_winY hl hw hob (okDB hs) (kBad13_run s bung dip _ _ (okKBad hl hz))
    · exact law_winY hl hw hob (okDB hs) (kBad14_run s bung dip _ _ (okKBad hl hz))
theorem argsKY_rel {P : Pg} {s : ByteArray} {bung dip y : Int} {sa : Option Addr} {N cap : Nat} (hd : P.den = DY s bung (.slice sa N cap) [dip, y]) (M : Mp) : LRel P M argsKY [.agg #[.string s, .int .i64 bung, .slice sa N cap], .int .i64 dip, .int .i64 y] :=
  LRel.cons (c3_relY hd M) (LRel.cons (dY hd M 0) (LRel.cons (dY hd M 1) (LRel.nil _)))
theorem back_any (s : ByteArray) (bung dip y : Int) (sa : Option Addr) (N cap b off : Nat) (f : Nat → Nat → Int) (w : World) (hs : 0 < N → sa = some ⟨b, off, none⟩) (hx : ∀ i j, i < N → j < 3 → w.cell? ⟨b, off + i * 3 + j, none⟩ = some (.int .i64 (f i j))) :
    Calls Try.prog 5 #[.agg #[.string s, .int .i64 bung, .slice sa N cap], .int .i64 dip, .int .i64 y] w fun e w' => e = .returned (.bool true) ∧ Below w.heap.size w w' := by
  cases hsm : smallB s N bung with
  | false => exact run_true (P := pgY s bung (.slice sa N cap) [dip, y] [] ok_none) rfl (by kernel_rfl) (okYS hsm) (kBig_run s bung (.slice sa N cap) [dip, y] ok_none) (fun M => argsKY_rel (N := N) rfl M) w
  | true =>
    have hN := small_N hsm
    by_cases h0 : N = 0
    · subst h0
      exact run_true (P := pgY s bung (.slice sa 0 cap) [dip, y] yBad okYBad) rfl (by kernel_rfl) (okYE hsm) (kNone_run s bung (.slice sa 0 cap) [dip, y] okYBad) (fun M => argsKY_rel (N := 0) rfl M) w
    · rw [hs (by omega)]
      refine back_win s bung dip y ((List.range (N * 3)).map fun k => f (k / 3) (k % 3)) N b off cap w (by omega) (by simp) (winAt_of (by omega) fun k hk => ?_) hsm
      have := hx (k / 3) (k % 3) (by omega) (by omega)
      rwa [show off + k / 3 * 3 + k % 3 = off + k by omega] at this
end Sy
end Go.Proofs.Ytpidgcmdimjkoaa
