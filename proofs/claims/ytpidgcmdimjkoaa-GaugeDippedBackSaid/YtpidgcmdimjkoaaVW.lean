import Derived.Test.YtpidgcmdimjkoaaVY
import Derived.Test.YtpidgcmdimjkoaaDZ
/- The reference's searches for dips. -/
set_option linter.unusedVariables false
set_option linter.unusedSimpArgs false
namespace Go.Proofs.Ytpidgcmdimjkoaa
open Go.RowKit
namespace Sy
open Go.RowKit

/-! What a search finds. -/
theorem bis_spec {p : Nat → Bool} {n : Nat} (hm : ∀ a b, a ≤ b → b < n → p a = true → p b = true) : ∀ (k lo hi : Nat), hi - lo ≤ k → lo ≤ hi → hi ≤ n → (∀ d, d < lo → p d = false) → (hi < n → p hi = true) → (∀ d, d < bis p lo hi → p d = false) ∧ (bis p lo hi < n → p (bis p lo hi) = true)
  | 0, lo, hi, h, hl, hn, h1, h2 => by
    have e : lo = hi := by omega
    subst e
    rw [bis_end (Nat.lt_irrefl _)]
    exact ⟨h1, h2⟩
  | k + 1, lo, hi, h, hl, hn, h1, h2 => by
    by_cases hlt : lo < hi
    · cases hp : p ((lo + hi) / 2) with
      | true =>
        rw [bis_yes hlt hp]
        exact bis_spec hm k lo ((lo + hi) / 2) (by omega) (by omega) (by omega) h1 (fun _ => hp)
      | false =>
        rw [bis_no hlt hp]
        refine bis_spec hm k ((lo + hi) / 2 + 1) hi (by omega) (by omega) hn (fun d hd => ?_) h2
        cases hpd : p d with
        | false => rfl
        | true =>
          have := hm d ((lo + hi) / 2) (by omega) (by omega) hpd
          rw [hp] at this; cases this
    · rw [bis_end hlt]
      have e : lo = hi := by omega
      subst e
      exact ⟨h1, h2⟩
/-- where the search for the last one ends -/
def mis (p : Nat → Bool) (lo hi : Nat) : Nat :=
  if lo < hi then (if p ((lo + hi + 1) / 2) then mis p ((lo + hi + 1) / 2) hi else mis p lo ((lo + hi + 1) / 2 - 1)) else lo
termination_by hi - lo
theorem mis_yes {p : Nat → Bool} {lo hi : Nat} (h : lo < hi) (hp : p ((lo + hi + 1) / 2) = true) : mis p lo hi = mis p ((lo + hi + 1) / 2) hi := by
  rw [mis, if_pos h, hp]; rfl
theorem mis_no {p : Nat → Bool} {lo hi : Nat} (h : lo < hi) (hp : p ((lo + hi + 1) / 2) = false) : mis p lo hi = mis p lo ((lo + hi + 1) / 2 - 1) := by
  rw [mis, if_pos h, hp]; rfl
theorem mis_end {p : Nat → Bool} {lo hi : Nat} (h : ¬ lo < hi) : mis p lo hi = lo := by rw [mis, if_neg h]
theorem mis_spec {p : Nat → Bool} {n : Nat} (hm : ∀ a b, a ≤ b → b ≤ n → p b = true → p a = true) : ∀ (k lo hi : Nat), hi - lo ≤ k → lo ≤ hi → hi ≤ n → p lo = true → (∀ d, hi < d → d ≤ n → p d = false) → p (mis p lo hi) = true ∧ (∀ d, mis p lo hi < d → d ≤ n → p d = false) ∧ mis p lo hi ≤ n
  | 0, lo, hi, h, hl, hn, h1, h2 => by
    have e : lo = hi := by omega
    subst e
    rw [mis_end (Nat.lt_irrefl _)]
    exact ⟨h1, h2, hn⟩
  | k + 1, lo, hi, h, hl, hn, h1, h2 => by
    by_cases hlt : lo < hi
    · cases hp : p ((lo + hi + 1) / 2) with
      | true =>
        rw [mis_yes hlt hp]
        exact mis_spec hm k ((lo + hi + 1) / 2) hi (by omega) (by omega) hn hp h2
      | false =>
        rw [mis_no hlt hp]
        refine mis_spec hm k lo ((lo + hi + 1) / 2 - 1) (by omega) (by omega) (by omega) h1 (fun d hd hdn => ?_)
        cases hpd : p d with
        | false => rfl
        | true =>
          have := hm ((lo + hi + 1) / 2) d (by omega) (by omega) hpd
          rw [hp] at this; cases this
    · rw [mis_end hlt]
      have e : lo = hi := by omega
      subst e
      exact ⟨h1, h2, hn⟩
/-- both ends do not fall -/
theorem vLo_up {bung : Int} {xs : List Int} {N : Nat} (hc : CaskOk bung xs N) {a b : Int} (h : a ≤ b) : vLo bung xs N a ≤ vLo bung xs N b ∧ vHi bung xs N a ≤ vHi bung xs N b ∧ vLo bung xs N a ≤ vHi bung xs N a := by
  have := ends_deeper (L := a - bung) (M := b - bung) hc hc (fun i hi => ⟨rfl, Int.le_refl _, Int.le_refl _⟩) (by omega)
  exact ⟨this.2.1, this.2.2.1, this.1⟩
theorem loP_bot {bung : Int} {xs : List Int} {N : Nat} (hc : CaskOk bung xs N) : ∀ k, k < N → loP (0 - bung) xs k = 0
  | 0, _ => rfl
  | k + 1, hk => by
    have s := seg_of hc hk
    show loP (0 - bung) xs k + dAt xs k * arLo (rIn xs k) (clampJ (rIn xs k) (0 - bung)) = 0
    have e : clampJ (rIn xs k) (0 - bung) = 0 := by
      have := s.i1
      unfold clampJ; omega
    rw [loP_bot hc k (by omega), e]
    simp [arLo]
theorem vLo_bot {bung : Int} {xs : List Int} {N : Nat} (hc : CaskOk bung xs N) : vLo bung xs N 0 = 0 := by
  have h2 := hc.two
  obtain ⟨⟨e1, _⟩, p, _⟩ := sums_bd (L := 0 - bung) hc (N - 1) (by omega)
  unfold vLo
  rw [e1, loP_bot hc (N - 1) (by omega), floorP_eq (by omega) (by omega)]
  rfl
def moS (bung : Int) (xs : List Int) (N : Nat) (vol : Int) : Nat := mis (fun d => decide (vLo bung xs N (d : Int) ≤ vol)) 0 (2 * bung).toNat
theorem moS_eq {bung : Int} {xs : List Int} {N : Nat} (hc : CaskOk bung xs N) {vol : Int} (h0 : 0 ≤ vol) : (moS bung xs N vol : Int) = (tmS bung xs N vol : Int) - 1 := by
  have h10 := hc.lo
  obtain ⟨m1, m2, m3⟩ := mis_spec (p := fun d => decide (vLo bung xs N (d : Int) ≤ vol)) (n := (2 * bung).toNat) (fun a b hab hb hp => by
      have := (vLo_up hc (show (a : Int) ≤ (b : Int) by omega)).1
      have hp : vLo bung xs N (b : Int) ≤ vol := of_decide_eq_true hp
      exact decide_eq_true (by omega)) (2 * bung).toNat 0 (2 * bung).toNat (by omega) (Nat.zero_le _) (Nat.le_refl _) (decide_eq_true (by rw [show ((0 : Nat) : Int) = 0 from rfl, vLo_bot hc]; exact h0)) (fun d h1 h2 => by omega)
  obtain ⟨t1, t2⟩ := bis_spec (p := fun d => decide (vol < vLo bung xs N (d : Int))) (n := (2 * bung + 1).toNat) (fun a b hab hb hp => by
      have := (vLo_up hc (show (a : Int) ≤ (b : Int) by omega)).1
      have hp : vol < vLo bung xs N (a : Int) := of_decide_eq_true hp
      exact decide_eq_true (by omega)) (2 * bung + 1).toNat 0 (2 * bung + 1).toNat (by omega) (Nat.zero_le _) (Nat.le_refl _) (fun d hd => by omega) (fun h => by omega)
  have tle := tmS_le bung xs N vol
  have m1 : vLo bung xs N (moS bung xs N vol : Int) ≤ vol := of_decide_eq_true m1
  have t1 : ∀ d, d < tmS bung xs N vol → decide (vol < vLo bung xs N (d : Int)) = false := t1
  have t2 : tmS bung xs N vol < (2 * bung + 1).toNat → decide (vol < vLo bung xs N (tmS bung xs N vol : Int)) = true := t2
  have m2 : ∀ d, moS bung xs N vol < d → d ≤ (2 * bung).toNat → decide (vLo bung xs N (d : Int) ≤ vol) = false := m2
  have m3 : moS bung xs N vol ≤ (2 * bung).toNat := m3
  by_cases h : moS bung xs N vol < tmS bung xs N vol
  · by_cases h2 : tmS bung xs N vol = moS bung xs N vol + 1
    · omega
    · have a := m2 (moS bung xs N vol + 1) (by omega) (by omega)
      have b := t1 (moS bung xs N vol + 1) (by omega)
      have a := of_decide_eq_false a
      have b := of_decide_eq_false b
      omega
  · have a := t2 (by omega)
    have a : vol < vLo bung xs N (tmS bung xs N vol : Int) := of_decide_eq_true a
    have b := (vLo_up hc (show ((tmS bung xs N vol : Nat) : Int) ≤ ((moS bung xs N vol : Nat) : Int) by omega)).1
    omega

theorem en_spec {bung : Int} {xs : List Int} {N : Nat} (hc : CaskOk bung xs N) (vol : Int) : (∀ d : Nat, d < enS bung xs N vol → vHi bung xs N (d : Int) < vol) ∧ (enS bung xs N vol < (2 * bung + 1).toNat → vol ≤ vHi bung xs N (enS bung xs N vol : Int)) := by
  have h10 := hc.lo
  obtain ⟨t1, t2⟩ := bis_spec (p := fun d => decide (vol ≤ vHi bung xs N (d : Int))) (n := (2 * bung + 1).toNat) (fun a b hab hb hp => by
      have := (vLo_up hc (show (a : Int) ≤ (b : Int) by omega)).2.1
      have hp : vol ≤ vHi bung xs N (a : Int) := of_decide_eq_true hp
      exact decide_eq_true (by omega)) (2 * bung + 1).toNat 0 (2 * bung + 1).toNat (by omega) (Nat.zero_le _) (Nat.le_refl _) (fun d hd => by omega) (fun h => by omega)
  exact ⟨fun d hd => Int.not_le.1 (of_decide_eq_false (t1 d hd)), fun h => of_decide_eq_true (t2 h)⟩
theorem tm_spec {bung : Int} {xs : List Int} {N : Nat} (hc : CaskOk bung xs N) (vol : Int) : (∀ d : Nat, d < tmS bung xs N vol → vLo bung xs N (d : Int) ≤ vol) ∧ (tmS bung xs N vol < (2 * bung + 1).toNat → vol < vLo bung xs N (tmS bung xs N vol : Int)) := by
  have h10 := hc.lo
  obtain ⟨t1, t2⟩ := bis_spec (p := fun d => decide (vol < vLo bung xs N (d : Int))) (n := (2 * bung + 1).toNat) (fun a b hab hb hp => by
      have := (vLo_up hc (show (a : Int) ≤ (b : Int) by omega)).1
      have hp : vol < vLo bung xs N (a : Int) := of_decide_eq_true hp
      exact decide_eq_true (by omega)) (2 * bung + 1).toNat 0 (2 * bung + 1).toNat (by omega) (Nat.zero_le _) (Nat.le_refl _) (fun d hd => by omega) (fun h => by omega)
  exact ⟨fun d hd => Int.not_lt.1 (of_decide_eq_false (t1 d hd)), fun h => of_decide_eq_true (t2 h)⟩
/-! The reference's VolumeTo, least, most. -/
noncomputable def spVolR (N : Nat) : CallF := spOr (spNum numsG) (spAreaR 54 (radiiV N) lvV)
section
variable (s : ByteArray) (bung dip : Int) (xs : List Int)
theorem rvRun2 (ok) : fstO (evDS (pgV s bung dip xs (fun _ => True) [] ok) (spVolR 2) 2000 60 (.fn 40) [winV 2, hDip] (hpW 2) 1) = some (.agg #[fLo lvV 2, fHi lvV 2]) := by kernel_rfl
theorem rvRun3 (ok) : fstO (evDS (pgV s bung dip xs (fun _ => True) [] ok) (spVolR 3) 2000 60 (.fn 40) [winV 3, hDip] (hpW 3) 1) = some (.agg #[fLo lvV 3, fHi lvV 3]) := by kernel_rfl
theorem rvRun4 (ok) : fstO (evDS (pgV s bung dip xs (fun _ => True) [] ok) (spVolR 4) 2000 60 (.fn 40) [winV 4, hDip] (hpW 4) 1) = some (.agg #[fLo lvV 4, fHi lvV 4]) := by kernel_rfl
end
theorem refVol_any {s : ByteArray} {bung : Int} {xs : List Int} {N gs os cap : Nat} (hN : N = 2 ∨ N = 3 ∨ N = 4) (hl : xs.length = N * 3) (hc : CaskOk bung xs N) (m : Int) (m0 : 0 ≤ m) (m1 : m ≤ 2 * bung) (w : World) (hw : WinAt gs os xs w) :
    Calls Try.prog 40 #[.agg #[.string s, .int .i64 bung, .slice (some ⟨gs, os, none⟩) N cap], .int .i64 m] w fun e w' => e = .returned (.agg #[.int .i64 (vLo bung xs N m), .int .i64 (vHi bung xs N m)]) ∧ Below w.heap.size w w' := by
  obtain ⟨ob, hob⟩ : ∃ ob, w.heap[gs]? = some ob := by obtain ⟨c, e, f, h, _⟩ := hw; exact ⟨_, h⟩
  have h8 := hc.hi
  have h10 := hc.lo
  have okn : ∀ f ∈ ([] : List Fact), OkF (D0 s bung m xs (fun _ => True)) f := ok_none
  have hrun : fstO (evDS (pgV s bung m xs (fun _ => True) [] okn) (spVolR N) 2000 60 (.fn 40) [winV N, hDip] (hpW N) 1) = some (.agg #[fLo lvV N, fHi lvV N]) := by
    rcases hN with rfl | rfl | rfl
    · exact rvRun2 s bung m xs okn
    · exact rvRun3 s bung m xs okn
    · exact rvRun4 s bung m xs okn
  have get0 : ∀ id o, (hpW N).get id = some o → id = 0 ∧ o = .win (rowV N) := by
    intro id o e
    unfold hpW at e
    rw [T.get_node] at e
    by_cases hi : id = 0
    · subst hi; simp at e; exact ⟨rfl, e.symm⟩
    · simp [hi, T.get_leaf] at e
  have nw : ∀ id, wrt ((hpW N).get id) = false := fun id => by
    cases e : (hpW N).get id with
    | none => rfl
    | some o => obtain ⟨_, rfl⟩ := get0 id o e; rfl
  have ho := winO (P := pgV s bung m xs (fun _ => True) [] okn) (M := mp1 gs os) (row := rowV N) (by rw [rowV_len, hl]) rowV_den hw hob trivial
  have ha : LRel (pgV s bung m xs (fun _ => True) [] okn) (mp1 gs os) [winV N, hDip] [.agg #[.string s, .int .i64 bung, .slice (some ⟨gs, os, none⟩) N cap], .int .i64 m] :=
    LRel.cons (LRel.agg (LRel.cons (.hol (P := pgV s bung m xs (fun _ => True) [] okn) (n := 0) rfl rfl (fun _ => rfl)) (LRel.cons (Dv.vrel (P := pgV s bung m xs (fun _ => True) [] okn) dBung) (LRel.cons (.osl rfl (.lit (N : Int))) (LRel.nil _))))) (LRel.cons (Dv.vrel (P := pgV s bung m xs (fun _ => True) [] okn) dDip) (LRel.nil _))
  have e : IntKind.i64.wrap (m - bung) = m - bung := IntWalk.i64_in _ (by omega)
  refine Calls.mono (run_ro (P := pgV s bung m xs (fun _ => True) [] okn) (args' := #[.agg #[.string s, .int .i64 bung, .slice (some ⟨gs, os, none⟩) N cap], .int .i64 m]) rfl (by kernel_rfl) (ok_spOr (ok_spNum (ok_numsG rfl rfl)) (ok_spAreaR rfl rfl (radii_ok hc) dLv (by omega) (by omega))) hrun ha ⟨fun id o e => ?_, fun i j b r r' hi => by rw [nw i] at hi; cases hi⟩ nw (fun id h1 => if_neg (by omega))) ?_
  · obtain ⟨rfl, rfl⟩ := get0 id o e
    exact ⟨gs, os, ob, rfl, Nat.zero_le _, hob, ho⟩
  · rintro e w2 ⟨M2, v2, rfl, hv2, hb2⟩
    refine ⟨?_, hb2⟩
    have dl := dFLo (N := N) (dLvA (s := s) (xs := xs) (O := fun _ => True) hc m0 m1)
    have dh := dFHi (N := N) (dLvA (s := s) (xs := xs) (O := fun _ => True) hc m0 m1)
    cases hv2 with
    | @agg _ f' hsz3 hel3 =>
    have hF := lrel_arr.2 ⟨hsz3, hel3⟩
    obtain ⟨t0, i0, j0⟩ := hF.get (i := 0) rfl
    obtain ⟨t1, i1, j1⟩ := hF.get (i := 1) rfl
    have hf2 : f' = #[t0, t1] := by
      apply Array.ext'
      have h3 : f'.toList.length = 2 := by rw [← hF.1]; rfl
      match he : f'.toList, h3 with
      | [z0, z1], _ => rw [he] at i0 i1; simp at i0 i1; rw [i0, i1]
    subst hf2
    obtain ⟨x0, e3, d3⟩ := vrel_num j0 dl.num
    obtain ⟨x1, e4, d4⟩ := vrel_num j1 dh.num
    subst e3 e4
    rw [← dl.unique _ d3, ← dh.unique _ d4]
    rfl
theorem belowDrewN {k : Nat} {A B : World} (h : Below k A B) (n : Nat) : Below k A (B.drewN n) := ⟨h.os, h.tape, h.output, h.size, h.block⟩
set_option maxRecDepth 100000 in
set_option maxHeartbeats 4000000 in
theorem least_any {s : ByteArray} {bung : Int} {xs : List Int} {N gs os cap : Nat} (hN : N = 2 ∨ N = 3 ∨ N = 4) (hl : xs.length = N * 3) (hc : CaskOk bung xs N) (vol : Int) (w : World) (hw : WinAt gs os xs w) :
    Calls Try.prog 37 #[.agg #[.string s, .int .i64 bung, .slice (some ⟨gs, os, none⟩) N cap], .int .i64 vol] w fun e w' => e = .returned (.int .i64 (enS bung xs N vol : Nat)) ∧ Below w.heap.size w w' := by
  have b8 := hc.hi
  have b10 := hc.lo
  have HV := Lib.hid (fun (w' : World) (hb : Below w.heap.size w w') (m : Nat) (hm : m < (2 * bung + 1).toNat) => refVol_any (s := s) (cap := cap) hN hl hc (m : Int) (by omega) (by omega) w' (hw.keep hb))
  have HE0 := Lib.hid (show enS bung xs N vol = bis (fun d => decide (vol ≤ vHi bung xs N (d : Int))) 0 (2 * bung + 1).toNat from rfl)
  obtain ⟨en, hen⟩ : ∃ z, enS bung xs N vol = z := ⟨_, rfl⟩
  rw [hen] at HE0 ⊢
  clear hen hw hc hl hN
  obtain ⟨n, hn⟩ : ∃ n, (2 * bung + 1).toNat = n := ⟨_, rfl⟩
  rw [hn] at HE0
  have hn2 : (2 * bung + 1 : Int) = (n : Int) := by omega
  have hn3 : n ≤ 1601 := by omega
  have hn4 : n ≤ (2 * bung + 1).toNat := by omega
  have hn5 : n ≤ 1601 := by omega
  have hfl := rfield_hi
  go_enter Try.func37, Try.ntmps37
  go_upto_region 1 with fail
  go_quiet (fail)
  go_wp2_with fail
  go_loopw [5, 6] (fun i j wr => ∃ lo hi : Nat, (lo ≤ hi ∧ hi ≤ n ∧ i = .int .i64 (lo : Int) ∧ j = .int .i64 (hi : Int)) ∧ Hid (en = bis (fun d => decide (vol ≤ vHi bung xs N (d : Int))) lo hi) ∧ wr.cell? ⟨w.heap.size, 0, none⟩ = some (.string s) ∧ wr.cell? ⟨w.heap.size, 1, none⟩ = some (.int .i64 bung) ∧ wr.cell? ⟨w.heap.size, 2, none⟩ = some (.slice (some ⟨gs, os, none⟩) N cap) ∧ Below w.heap.size w wr) (fun i j _ => (RowKit.intOf j - RowKit.intOf i).toNat)
  case atStart => exact ⟨0, n, ⟨Nat.zero_le _, Nat.le_refl _, rfl, by first | rfl | rw [hn2]⟩, HE0, by go_cell, by go_cell, by go_cell, belowDrewN ((Below.refl _ _).alloc (Nat.le_refl _) _) _⟩
  case round =>
    obtain ⟨lo, hi, ⟨hlh, hin, rfl, rfl⟩, HE, x0, x1, x2, hB⟩ := hrel
    by_cases hlt : lo < hi
    · have hc := HV.out wr hB ((lo + hi) / 2) (by omega)
      rw [show (((lo + hi) / 2 : Nat) : Int) = ((lo : Int) + (hi : Int)) / 2 by omega] at hc
      have HP := Lib.hid (fun (h : (fun d : Nat => decide (vol ≤ vHi bung xs N (d : Int))) ((lo + hi) / 2) = true) => HE.out.trans (bis_yes hlt h))
      have HQ := Lib.hid (fun (h : (fun d : Nat => decide (vol ≤ vHi bung xs N (d : Int))) ((lo + hi) / 2) = false) => HE.out.trans (bis_no hlt h))
      dsimp only at HP HQ
      rw [show (((lo + hi) / 2 : Nat) : Int) = ((lo : Int) + (hi : Int)) / 2 by omega] at HP HQ
      obtain ⟨L, hL⟩ : ∃ z, vLo bung xs N (((lo : Int) + (hi : Int)) / 2) = z := ⟨_, rfl⟩
      obtain ⟨H, hH⟩ : ∃ z, vHi bung xs N (((lo : Int) + (hi : Int)) / 2) = z := ⟨_, rfl⟩
      rw [hL, hH] at hc
      rw [hH] at HP HQ
      clear hL hH HE
      by_cases hp : vol ≤ H
      · have HE2 := Lib.hid (HP.out (decide_eq_true hp))
        clear HP HQ
        go_wp2_with (go_at_call 40; (with_reducible refine Calls.mono hc ?_); rintro e w2 ⟨rfl, hb2⟩; have y0 := keepC hb2 x0; have y1 := keepC hb2 x1; have y2 := keepC hb2 x2)
        go_roundw
        case rel => exact ⟨lo, (lo + hi) / 2, ⟨by omega, by omega, rfl, by go_num⟩, HE2, y0, y1, y2, belowSeq hb2 hB⟩
        case measure => simp [RowKit.intOf]; omega
      · have HE2 := Lib.hid (HQ.out (decide_eq_false hp))
        have hp2 := Int.not_le.1 hp
        clear HP HQ hp
        go_wp2_with (go_at_call 40; (with_reducible refine Calls.mono hc ?_); rintro e w2 ⟨rfl, hb2⟩; have y0 := keepC hb2 x0; have y1 := keepC hb2 x1; have y2 := keepC hb2 x2)
        go_roundw
        case rel => exact ⟨(lo + hi) / 2 + 1, hi, ⟨by omega, hin, by go_num, rfl⟩, HE2, y0, y1, y2, belowSeq hb2 hB⟩
        case measure => simp [RowKit.intOf]; omega
    · have e : lo = hi := by omega
      subst e
      have HH := Lib.hid (HE.out.trans (bis_end (Nat.lt_irrefl _)))
      clear HE
      go_wp2_with fail
      go_ret
      refine ⟨?_, hB⟩
      rw [HH.out]
      rfl
set_option maxRecDepth 100000 in
set_option maxHeartbeats 4000000 in
theorem most_any {s : ByteArray} {bung : Int} {xs : List Int} {N gs os cap : Nat} (hN : N = 2 ∨ N = 3 ∨ N = 4) (hl : xs.length = N * 3) (hc : CaskOk bung xs N) (vol : Int) (w : World) (hw : WinAt gs os xs w) :
    Calls Try.prog 38 #[.agg #[.string s, .int .i64 bung, .slice (some ⟨gs, os, none⟩) N cap], .int .i64 vol] w fun e w' => e = .returned (.int .i64 (moS bung xs N vol : Nat)) ∧ Below w.heap.size w w' := by
  have b8 := hc.hi
  have b10 := hc.lo
  have HV := Lib.hid (fun (w' : World) (hb : Below w.heap.size w w') (m : Nat) (hm : m < (2 * bung + 1).toNat) => refVol_any (s := s) (cap := cap) hN hl hc (m : Int) (by omega) (by omega) w' (hw.keep hb))
  have HE0 := Lib.hid (show moS bung xs N vol = mis (fun d => decide (vLo bung xs N (d : Int) ≤ vol)) 0 (2 * bung).toNat from rfl)
  obtain ⟨en, hen⟩ : ∃ z, moS bung xs N vol = z := ⟨_, rfl⟩
  rw [hen] at HE0 ⊢
  clear hen hw hc hl hN
  obtain ⟨n, hn⟩ : ∃ n, (2 * bung).toNat = n := ⟨_, rfl⟩
  rw [hn] at HE0
  have hn2 : (2 * bung : Int) = (n : Int) := by omega
  have hn3 : n ≤ 1601 := by omega
  have hn4 : n ≤ (2 * bung + 1).toNat := by omega
  have hn5 : n < (2 * bung + 1).toNat := by omega
  have hfl := rfield_lo
  go_enter Try.func38, Try.ntmps38
  go_upto_region 1 with fail
  go_quiet (fail)
  go_wp2_with fail
  go_loopw [5, 6] (fun i j wr => ∃ lo hi : Nat, (lo ≤ hi ∧ hi ≤ n ∧ i = .int .i64 (lo : Int) ∧ j = .int .i64 (hi : Int)) ∧ Hid (en = mis (fun d => decide (vLo bung xs N (d : Int) ≤ vol)) lo hi) ∧ wr.cell? ⟨w.heap.size, 0, none⟩ = some (.string s) ∧ wr.cell? ⟨w.heap.size, 1, none⟩ = some (.int .i64 bung) ∧ wr.cell? ⟨w.heap.size, 2, none⟩ = some (.slice (some ⟨gs, os, none⟩) N cap) ∧ Below w.heap.size w wr) (fun i j _ => (RowKit.intOf j - RowKit.intOf i).toNat)
  case atStart => exact ⟨0, n, ⟨Nat.zero_le _, Nat.le_refl _, rfl, by first | rfl | rw [hn2]⟩, HE0, by go_cell, by go_cell, by go_cell, belowDrewN ((Below.refl _ _).alloc (Nat.le_refl _) _) _⟩
  case round =>
    obtain ⟨lo, hi, ⟨hlh, hin, rfl, rfl⟩, HE, x0, x1, x2, hB⟩ := hrel
    by_cases hlt : lo < hi
    · have hc := HV.out wr hB ((lo + hi + 1) / 2) (by omega)
      rw [show (((lo + hi + 1) / 2 : Nat) : Int) = ((lo : Int) + (hi : Int) + 1) / 2 by omega] at hc
      have HP := Lib.hid (fun (h : (fun d : Nat => decide (vLo bung xs N (d : Int) ≤ vol)) ((lo + hi + 1) / 2) = true) => HE.out.trans (mis_yes hlt h))
      have HQ := Lib.hid (fun (h : (fun d : Nat => decide (vLo bung xs N (d : Int) ≤ vol)) ((lo + hi + 1) / 2) = false) => HE.out.trans (mis_no hlt h))
      dsimp only at HP HQ
      rw [show (((lo + hi + 1) / 2 : Nat) : Int) = ((lo : Int) + (hi : Int) + 1) / 2 by omega] at HP HQ
      obtain ⟨L, hL⟩ : ∃ z, vLo bung xs N (((lo : Int) + (hi : Int) + 1) / 2) = z := ⟨_, rfl⟩
      obtain ⟨H, hH⟩ : ∃ z, vHi bung xs N (((lo : Int) + (hi : Int) + 1) / 2) = z := ⟨_, rfl⟩
      rw [hL, hH] at hc
      rw [hL] at HP HQ
      clear hL hH HE
      by_cases hp : L ≤ vol
      · have HE2 := Lib.hid (HP.out (decide_eq_true hp))
        clear HP HQ
        go_wp2_with (go_at_call 40; (with_reducible refine Calls.mono hc ?_); rintro e w2 ⟨rfl, hb2⟩; have y0 := keepC hb2 x0; have y1 := keepC hb2 x1; have y2 := keepC hb2 x2)
        go_roundw
        case rel => exact ⟨(lo + hi + 1) / 2, hi, ⟨by omega, hin, by go_num, rfl⟩, HE2, y0, y1, y2, belowSeq hb2 hB⟩
        case measure => simp [RowKit.intOf]; omega
      · have HE2 := Lib.hid (HQ.out (decide_eq_false hp))
        have hp2 := Int.not_le.1 hp
        clear HP HQ hp
        go_wp2_with (go_at_call 40; (with_reducible refine Calls.mono hc ?_); rintro e w2 ⟨rfl, hb2⟩; have y0 := keepC hb2 x0; have y1 := keepC hb2 x1; have y2 := keepC hb2 x2)
        go_roundw
        case rel => exact ⟨lo, (lo + hi + 1) / 2 - 1, ⟨by omega, by omega, rfl, by go_num⟩, HE2, y0, y1, y2, belowSeq hb2 hB⟩
        case measure => simp [RowKit.intOf]; omega
    · have e : lo = hi := by omega
      subst e
      have HH := Lib.hid (HE.out.trans (mis_end (Nat.lt_irrefl _)))
      clear HE
      go_wp2_with fail
      go_ret
      refine ⟨?_, hB⟩
      rw [HH.out]
      rfl
end Sy
end Go.Proofs.Ytpidgcmdimjkoaa

/- What is known of the calls that ask for dips, for the reckoner with symbols. -/
set_option linter.unusedVariables false
set_option linter.unusedSimpArgs false
namespace Go.Proofs.Ytpidgcmdimjkoaa
open Go.RowKit
namespace Sy
open Go.RowKit

noncomputable def eqTs (l m : List Value) : Bool := Nat.beq l.length m.length && (l.zip m).all fun x => eqT 90 x.1 x.2
theorem eqTs_eq : ∀ (l m : List Value), eqTs l m = true → l = m
  | [], [], _ => rfl
  | [], _ :: _, h => by cases h
  | _ :: _, [], h => by cases h
  | x :: l, y :: m, h => by
    obtain ⟨h1, h2⟩ := Bool.and_eq_true_iff.1 h
    have h1 := Nat.eq_of_beq_eq_true h1
    have h2 : (eqT 90 x y && (l.zip m).all fun x => eqT 90 x.1 x.2) = true := h2
    obtain ⟨h3, h4⟩ := Bool.and_eq_true_iff.1 h2
    rw [eqT_eq _ _ _ h3, eqTs_eq l m (by unfold eqTs; rw [h4, Bool.and_true]; simp at h1; rw [h1]; exact Nat.beq_refl _)]
/-- a list of numbers that begins with the stations -/
def Ag (zs xs : List Int) (N : Nat) : Prop := ∀ i, i < N * 3 → zs.getD i 0 = xs.getD i 0
theorem Ag.rfl' (xs : List Int) (N : Nat) : Ag xs xs N := fun _ _ => rfl
theorem Ag.app {xs ys : List Int} {N : Nat} (hl : xs.length = N * 3) : Ag (xs ++ ys) xs N := fun i hi => by
  rw [List.getD_eq_getElem?_getD, List.getD_eq_getElem?_getD, List.getElem?_append_left (by omega)]
theorem rowV_denG {s : ByteArray} {bung dip : Int} {zs xs : List Int} {O : Obj → Prop} {N : Nat} (hl : xs.length = N * 3) (hag : Ag zs xs N) : ∀ (i : Nat) (v : Value) (x : Int), (rowV N)[i]? = some v → xs[i]? = some x → Dv (D0 s bung dip zs O) v x := fun i v x hv hx => by
  obtain ⟨e, hi⟩ := rowV_get hv
  subst e
  refine .hole ?_
  show Value.int .i64 (zs.getD i 0) = _
  rw [hag i hi, List.getD_eq_getElem?_getD, hx]
  rfl
theorem loZ_ag {zs xs : List Int} {N : Nat} (h : Ag zs xs N) (L : Int) : ∀ k, k < N → loZ L zs k = loZ L xs k ∧ hiZ L zs k = hiZ L xs k
  | 0, _ => ⟨rfl, rfl⟩
  | k + 1, hk => by
    obtain ⟨h1, h2⟩ := loZ_ag h L k (by omega)
    unfold loZ hiZ
    rw [h1, h2, h ((k + 1) * 3 + 0) (by omega), h (k * 3 + 0) (by omega), h (k * 3 + 1) (by omega), h ((k + 1) * 3 + 1) (by omega), h (k * 3 + 2) (by omega), h ((k + 1) * 3 + 2) (by omega)]
    exact ⟨rfl, rfl⟩
theorem CaskOk.ag {bung : Int} {zs xs : List Int} {N : Nat} (h : Ag zs xs N) (hc : CaskOk bung xs N) : CaskOk bung zs N :=
  ⟨hc.two, hc.twelve, hc.lo, hc.hi, fun i hi => by rw [h (i * 3) (by omega), h (i * 3 + 1) (by omega), h (i * 3 + 2) (by omega)]; exact hc.st i hi, fun i h0 hi => by rw [h ((i - 1) * 3) (by omega), h (i * 3) (by omega)]; exact hc.up i h0 hi⟩
theorem dErrG {s : ByteArray} {bung dip : Int} {zs xs : List Int} {O : Obj → Prop} {N : Nat} (hl : xs.length = N * 3) (hag : Ag zs xs N) : Dv (D0 s bung dip zs O) (errV N) (caskS s bung xs).2 :=
  .app (t := 121) (xs := bung :: xs) (by decide) (by simp [rowV, hl]) (fun i v x hv hx => by
    cases i with
    | zero => simp at hv hx; subst hv hx; exact dBung
    | succ i => exact rowV_denG hl hag i v x (by simpa using hv) (by simpa using hx))
theorem rowX {P : Pg} {s : ByteArray} {bung dip : Int} {zs xs : List Int} {O : Obj → Prop} (hd : P.den = D0 s bung dip zs O) {N : Nat} (hl : xs.length = N * 3) (hag : Ag zs xs N) {M : Mp} {l' : List Value} (h : LRel P M (rowV N) l') : l' = xs.map fun x => Value.int .i64 x := by
  obtain ⟨ys, e, hlen, hdv⟩ := nums_of _ _ h (List.all_eq_true.2 fun v hv => by obtain ⟨i, hi⟩ := List.getElem?_of_mem hv; obtain ⟨e, _⟩ := rowV_get hi; subst e; rfl)
  have : ys = xs := by
    apply List.ext_getElem?
    intro i
    rw [rowV_len] at hlen
    by_cases hi : i < N * 3
    · have hv : (rowV N)[i]? = some (hN (i + 3)) := by
        unfold rowV
        rw [List.getElem?_map, List.getElem?_range hi]
        rfl
      have hy : ys[i]? = some ys[i] := List.getElem?_eq_getElem (by omega)
      have hx : xs[i]? = some xs[i] := List.getElem?_eq_getElem (by omega)
      have d1 := hdv i _ _ hv hy
      have d2 : Dv P.den (hN (i + 3)) xs[i] := by rw [hd]; exact rowV_denG hl hag i _ _ hv hx
      rw [hy, hx, d1.unique _ d2]
    · rw [List.getElem?_eq_none (by omega), List.getElem?_eq_none (by omega)]
  rw [e, this]
def seekV (code N : Nat) (vs : Value) : Value := .iface code (.tuple (hBung :: vs :: rowV N).toArray)
theorem dSeek {s : ByteArray} {bung dip : Int} {zs xs : List Int} {O : Obj → Prop} {N : Nat} (hl : xs.length = N * 3) (hag : Ag zs xs N) {vs : Value} {vol : Int} (hv : Dv (D0 s bung dip zs O) vs vol) (code : Nat) (hc : 100 ≤ code) : Dv (D0 s bung dip zs O) (seekV code N vs) (intG s code (bung :: vol :: xs)) :=
  .app (t := code) (xs := bung :: vol :: xs) hc (by simp [rowV, hl]) (fun i v x hv' hx => by
    match i with
    | 0 => simp at hv' hx; subst hv' hx; exact dBung
    | 1 => simp at hv' hx; subst hv' hx; exact hv
    | i + 2 => exact rowV_denG hl hag i v x (by simpa using hv') (by simpa using hx))
/-- a search of the reference -/
noncomputable def spSeek (f code N : Nat) (vs : Value) : CallF := fun t args hp nid =>
  match t with
  | .fn g => ck (Nat.beq g f && Nat.beq args.length 2) (ob args[0]? fun c => ob args[1]? fun v => withAgg c fun cs => ob cs[0]? fun nm => ob cs[1]? fun bung => ob cs[2]? fun st => withOsl st fun b lt => withNat lt fun n =>
      ob (hp.get b) fun r => withWin r fun row => ck (Nat.beq cs.toList.length 3 && (isName0 nm && (eqT 90 bung hBung && (Nat.beq n N && (eqTs row (rowV N) && eqT 90 v vs))))) (some (seekV code N vs, hp, nid)))
  | .yield _ => none
theorem ok_spSeek {P : Pg} (hp : P.prog = Try.prog) {s : ByteArray} {bung dip : Int} {zs xs : List Int} {O : Obj → Prop} (hd : P.den = D0 s bung dip zs O) {f code N : Nat} (h100 : 100 ≤ code) {vs : Value} {vol : Int} (hl : xs.length = N * 3) (hag : Ag zs xs N) (hvs : Dv P.den vs vol)
    (key : ∀ gs os cap w, WinAt gs os xs w → Calls Try.prog f #[.agg #[.string s, .int .i64 bung, .slice (some ⟨gs, os, none⟩) N cap], .int .i64 vol] w fun e w' => e = .returned (.int .i64 (intG s code (bung :: vol :: xs))) ∧ Below w.heap.size w w') : CallOk P (spSeek f code N vs) := fun t args hp0 nid v hp' nid' h => by
  cases t with
  | yield l => cases h
  | fn g =>
    obtain ⟨hg0, h1⟩ := ck_some h
    clear h
    simp only [Bool.and_eq_true] at hg0
    have hg := Nat.eq_of_beq_eq_true hg0.1
    subst hg
    obtain ⟨c, hc, h2⟩ := ob_some h1
    clear h1
    obtain ⟨va, hva, h2b⟩ := ob_some h2
    clear h2
    obtain ⟨cs, rfl, h3⟩ := withAgg_some h2b
    clear h2b
    obtain ⟨nm, hnm, h4⟩ := ob_some h3
    clear h3
    obtain ⟨bu, hbu, h5⟩ := ob_some h4
    clear h4
    obtain ⟨st, hst, h6⟩ := ob_some h5
    clear h5
    obtain ⟨b, lt, rfl, h7⟩ := withOsl_some h6
    clear h6
    obtain ⟨n, rfl, h7b⟩ := withNat_some h7
    clear h7
    obtain ⟨r, hr, h8⟩ := ob_some h7b
    clear h7b
    obtain ⟨row, rfl, h9⟩ := withWin_some h8
    clear h8
    obtain ⟨hk, h10⟩ := ck_some h9
    clear h9
    cases h10
    simp only [Bool.and_eq_true] at hk
    obtain ⟨k0, k1, k2, k3, k4, k5⟩ := hk
    have hcs := Nat.eq_of_beq_eq_true k0
    have e2 := eqT_eq _ _ _ k2
    subst e2
    have e3 := Nat.eq_of_beq_eq_true k3
    subst e3
    have e4 := eqTs_eq _ _ k4
    subst e4
    have e5 := eqT_eq _ _ _ k5
    subst e5
    refine ⟨Nat.le_refl _, fun B M args' w ha hh hB hf => ?_⟩
    obtain ⟨a0, q0, r0⟩ := ha.get hc
    obtain ⟨a1, q1, r1⟩ := ha.get hva
    have hlen2 : args'.toList.length = 2 := by rw [← ha.1]; exact Nat.eq_of_beq_eq_true hg0.2
    have hargs : args' = #[a0, a1] := by
      apply Array.ext'
      match he : args'.toList, hlen2 with
      | [z0, z1], _ => rw [he] at q0 q1; simp at q0 q1; rw [q0, q1]
    subst hargs
    obtain ⟨y, e3, d3⟩ := vrel_num r1 hvs.num
    subst e3
    have := hvs.unique _ d3
    subst this
    cases r0 with
    | @agg _ a' hsz hel =>
      have hL : LRel P M cs.toList a'.toList := lrel_arr.2 ⟨hsz, hel⟩
      obtain ⟨v0, p0, s0⟩ := hL.get (i := 0) (by simpa using hnm)
      obtain ⟨v1, p1, s1⟩ := hL.get (i := 1) (by simpa using hbu)
      obtain ⟨v2, p2, s2⟩ := hL.get (i := 2) (by simpa using hst)
      have ha3 : a' = #[v0, v1, v2] := by
        apply Array.ext'
        have h3 : a'.toList.length = 3 := by rw [← hL.1]; exact hcs
        match he : a'.toList, h3 with
        | [z0, z1, z2], _ => rw [he] at p0 p1 p2; simp at p0 p1 p2; rw [p0, p1, p2]
      subst ha3
      have e0 : v0 = .string s := isName0_rel hd rfl _ k1 _ _ s0
      subst e0
      have db : Dv P.den hBung bung := by rw [hd]; exact dBung
      obtain ⟨y1, e1, d1⟩ := vrel_num s1 db.num
      subst e1
      have := db.unique _ d1
      subst this
      cases s2 with
      | @osl _ b' rr n' cc _ hb hn =>
        have hn' : ((n' : Nat) : Int) = (n : Int) := (Dv.unique (.lit (n : Int)) _ hn).symm
        have hn' : n' = n := by omega
        subst hn'
        obtain ⟨b1, r1', ob, j1, j2, j3, j4⟩ := hh.has b _ hr
        rw [hb] at j1
        cases j1
        obtain ⟨c', e', fr, rfl, hw0, _⟩ := j4
        have hwin : WinAt b' rr xs w := ⟨c', e', fr, j3, by
          have := rowX hd hl hag hw0
          rw [rowV_len, ← hl] at this
          exact this⟩
        show Calls P.prog _ _ _ _
        rw [hp]
        refine Calls.mono (key b' rr cc w hwin) ?_
        rintro e w' ⟨rfl, hbl⟩
        obtain ⟨z1, z2⟩ := below_post nid hh hbl
        refine ⟨M, _, rfl, ?_, z1, z2⟩
        refine .sym ?_ (.inr h100)
        rw [hd] at hvs ⊢
        exact dSeek hl hag hvs code h100
      | sym h ht => rcases ht with h | h <;> exact absurd h (by decide)
/-- DipOf of a copy of the cask, and a volume between 0 and the greatest one: none, or some -/
noncomputable def dipR (N : Nat) (vs : Value) (no : Bool) : Value := bi no (.tuple #[.agg #[.int .i64 0, .int .i64 0], .int .i64 12]) (.tuple #[.agg #[seekV 122 N vs, seekV 123 N vs], .int .i64 0])
noncomputable def spDip (f N : Nat) (vs : Value) (no : Bool) : CallF := fun t args hp nid =>
  match t with
  | .fn g => ck (Nat.beq g f && Nat.beq args.length 2) (ob args[0]? fun c => ob args[1]? fun v => withAgg c fun cs => ob cs[0]? fun nm => ob cs[1]? fun bung => ob cs[2]? fun st => withSlc st (fun _ _ => none) fun b o n cp =>
      ob (hp.get b) fun r => withRow r fun row el opn => ck (Nat.beq cs.toList.length 3 && (isName0 nm && (eqT 90 bung hBung && (Nat.beq n N && (Nat.beq o 0 && (Nat.beq cp OPEN && (eqTs row (rowV N) && eqT 90 v vs))))))) (some (dipR N vs no, hp, nid)))
  | .yield _ => none
theorem ok_spDip {P : Pg} (hp : P.prog = Try.prog) {s : ByteArray} {bung dip : Int} {zs xs : List Int} {O : Obj → Prop} (hd : P.den = D0 s bung dip zs O) {N : Nat} {vs : Value} {vol : Int} (hN : N = 2 ∨ N = 3 ∨ N = 4) (hl : xs.length = N * 3) (hag : Ag zs xs N) (hvs : Dv P.den vs vol) (hz : (caskS s bung xs).2 = 0) (v0 : 0 ≤ vol) (v1 : vol ≤ 100000)
    {no : Bool} (hno : decide ((tmS bung xs N vol : Int) ≤ enS bung xs N vol) = no) : CallOk P (spDip 14 N vs no) := fun t args hp0 nid v hp' nid' h => by
  cases t with
  | yield l => cases h
  | fn g =>
    obtain ⟨hg0, h1⟩ := ck_some h
    clear h
    simp only [Bool.and_eq_true] at hg0
    have hg := Nat.eq_of_beq_eq_true hg0.1
    subst hg
    obtain ⟨c, hc, h2⟩ := ob_some h1
    clear h1
    obtain ⟨va, hva, h2b⟩ := ob_some h2
    clear h2
    obtain ⟨cs, rfl, h3⟩ := withAgg_some h2b
    clear h2b
    obtain ⟨nm, hnm, h4⟩ := ob_some h3
    clear h3
    obtain ⟨bu, hbu, h5⟩ := ob_some h4
    clear h4
    obtain ⟨st, hst, h6⟩ := ob_some h5
    clear h5
    rcases withSlc_some h6 with ⟨_, _, _, h7⟩ | ⟨b, o, n, cp, rfl, h7⟩
    · cases h7
    clear h6
    obtain ⟨r, hr, h8⟩ := ob_some h7
    clear h7
    obtain ⟨row, el, opn, rfl, h9⟩ := withRow_some h8
    clear h8
    obtain ⟨hk, h10⟩ := ck_some h9
    clear h9
    cases h10
    simp only [Bool.and_eq_true] at hk
    obtain ⟨k0, k1, k2, k3, k6, k7, k4, k5⟩ := hk
    have hcs := Nat.eq_of_beq_eq_true k0
    have e2 := eqT_eq _ _ _ k2
    subst e2
    have e3 := Nat.eq_of_beq_eq_true k3
    subst e3
    have e6 := Nat.eq_of_beq_eq_true k6
    subst e6
    have e7 := Nat.eq_of_beq_eq_true k7
    subst e7
    have e4 := eqTs_eq _ _ k4
    subst e4
    have e5 := eqT_eq _ _ _ k5
    subst e5
    refine ⟨Nat.le_refl _, fun B M args' w ha hh hB hf => ?_⟩
    obtain ⟨a0, q0, r0⟩ := ha.get hc
    obtain ⟨a1, q1, r1⟩ := ha.get hva
    have hlen2 : args'.toList.length = 2 := by rw [← ha.1]; exact Nat.eq_of_beq_eq_true hg0.2
    have hargs : args' = #[a0, a1] := by
      apply Array.ext'
      match he : args'.toList, hlen2 with
      | [z0, z1], _ => rw [he] at q0 q1; simp at q0 q1; rw [q0, q1]
    subst hargs
    obtain ⟨y, e3, d3⟩ := vrel_num r1 hvs.num
    subst e3
    have := hvs.unique _ d3
    subst this
    cases r0 with
    | @agg _ a' hsz hel =>
      have hL : LRel P M cs.toList a'.toList := lrel_arr.2 ⟨hsz, hel⟩
      obtain ⟨v0', p0, s0⟩ := hL.get (i := 0) (by simpa using hnm)
      obtain ⟨v1', p1, s1⟩ := hL.get (i := 1) (by simpa using hbu)
      obtain ⟨v2', p2, s2⟩ := hL.get (i := 2) (by simpa using hst)
      have ha3 : a' = #[v0', v1', v2'] := by
        apply Array.ext'
        have h3 : a'.toList.length = 3 := by rw [← hL.1]; exact hcs
        match he : a'.toList, h3 with
        | [z0, z1, z2], _ => rw [he] at p0 p1 p2; simp at p0 p1 p2; rw [p0, p1, p2]
      subst ha3
      have e0 : v0' = .string s := isName0_rel hd rfl _ k1 _ _ s0
      subst e0
      have db : Dv P.den hBung bung := by rw [hd]; exact dBung
      obtain ⟨y1, e1, d1⟩ := vrel_num s1 db.num
      subst e1
      have := db.unique _ d1
      subst this
      obtain ⟨b', rr, hb, hnr, hv2⟩ : ∃ b' rr, M b = some (b', rr) ∧ n ≤ rr ∧ v2' = .slice (some ⟨b', 0, none⟩) n rr := by
        cases s2 with
        | slc hb hc => exact absurd hc (Nat.lt_irrefl _)
        | slo hb hn => exact ⟨_, _, hb, hn, rfl⟩
      subst hv2
      obtain ⟨b1, r1', ob, j1, j2, j3, j4⟩ := hh.has b _ hr
      rw [hb] at j1
      cases j1
      obtain ⟨c', rfl, _, g1, g2⟩ := j4
      have hrow : LRel P M (rowV n) ((c'.toList.drop 0).take (rowV n).length) := by
        rw [List.drop_zero]
        cases opn with
        | true => exact (g2 rfl).1
        | false =>
          have := g1 rfl
          rw [List.take_of_length_le (by rw [this.1]; exact Nat.le_refl _)]
          exact this
      have hwin : WinAt b' 0 xs w := ⟨c', el, (0, 0), j3, by
        have := rowX hd hl hag hrow
        rw [rowV_len, ← hl] at this
        exact this⟩
      show Calls P.prog _ _ _ _
      rw [hp]
      refine Calls.mono (dipOf_any w vol hN hl hwin hnr hz v0 v1) ?_
      rintro e w' ⟨rfl, hbl⟩
      obtain ⟨z1, z2⟩ := below_post nid hh hbl
      have hlN : xs.length / 3 = n := by omega
      cases no with
      | true =>
        rw [if_pos (of_decide_eq_true hno)]
        exact ⟨M, _, rfl, LRel.tup (LRel.cons (LRel.agg (LRel.cons (.int .i64 0) (LRel.cons (.int .i64 0) (LRel.nil M)))) (LRel.cons (.int .i64 12) (LRel.nil M))), z1, z2⟩
      | false =>
        rw [if_neg (of_decide_eq_false hno)]
        rw [hd] at hvs
        have d1 := dSeek hl hag hvs 122 (by decide)
        have d2 := dSeek hl hag hvs 123 (by decide)
        have f1 : intG s 122 (bung :: vol :: xs) = (enS bung xs n vol : Int) := by show (enS bung xs (xs.length / 3) vol : Int) = _; rw [hlN]
        have f2 : intG s 123 (bung :: vol :: xs) = (tmS bung xs n vol : Int) - 1 := by show (tmS bung xs (xs.length / 3) vol : Int) - 1 = _; rw [hlN]
        rw [f1] at d1
        rw [f2] at d2
        rw [← hd] at d1 d2
        exact ⟨M, _, rfl, LRel.tup (LRel.cons (LRel.agg (LRel.cons d1.vrel (LRel.cons d2.vrel (LRel.nil M)))) (LRel.cons (.int .i64 0) (LRel.nil M))), z1, z2⟩
end Sy
end Go.Proofs.Ytpidgcmdimjkoaa
