/- FromDip of a right cask and right numbers: the contract. -/
import Derived.Test.YtpfhfphcmomfdaaDF
set_option linter.unusedVariables false
set_option linter.unusedSimpArgs false
namespace Go.Proofs.Ytpfhfphcmomfdaa
open Go.RowKit
namespace Sy
open Go.RowKit

theorem app4F {D : Dn} {t : Nat} (ht : 100 ≤ t) {a b c d : Value} {x y u z : Int} (ha : Dv D a x) (hb : Dv D b y) (hc : Dv D c u) (hd : Dv D d z) : Dv D (.iface t (.tuple #[a, b, c, d])) (D.int t [x, y, u, z]) := .app ht rfl (fun i v q hv hz => by
  match i with
  | 0 => simp at hv hz; subst hv hz; exact ha
  | 1 => simp at hv hz; subst hv hz; exact hb
  | 2 => simp at hv hz; subst hv hz; exact hc
  | 3 => simp at hv hz; subst hv hz; exact hd
  | i + 4 => simp at hv)
section
variable {s : ByteArray} {bung dip day dp wr : Int} {xs : List Int} {O : Obj → Prop} {N : Nat}
theorem dF0 (hl : xs.length = N * 3) : Dv (D0 s bung dip (zsOf xs day dp wr) O) (hF N 0) day := dHx hl 0 day rfl
theorem dF1 (hl : xs.length = N * 3) : Dv (D0 s bung dip (zsOf xs day dp wr) O) (hF N 1) dp := dHx hl 1 dp rfl
theorem dF2 (hl : xs.length = N * 3) : Dv (D0 s bung dip (zsOf xs day dp wr) O) (hF N 2) wr := dHx hl 2 wr rfl
theorem dLvFA (hl : xs.length = N * 3) (hc : CaskOk bung xs N) (h1 : 0 ≤ dp) (h2 : dp ≤ 2 * bung) (h3 : 0 ≤ wr) (h4 : wr ≤ 2 * bung) : Dv (D0 s bung dip (zsOf xs day dp wr) O) (lvFA N) (max 0 (dp - wr) - bung) := by
  have h8 := hc.hi
  have h10 := hc.lo
  have h : Dv (D0 s bung dip (zsOf xs day dp wr) O) (lvFA N) (binN 2 (binN 5 0 (binN 2 dp wr)) bung) := .bin (t := 2) (by decide) (.bin (t := 5) (by decide) (.lit 0) (.bin (t := 2) (by decide) (dF1 hl) (dF2 hl))) dBung
  rwa [show binN 2 dp wr = dp - wr from IntWalk.i64_in _ (by omega), show binN 2 (binN 5 0 (dp - wr)) bung = max 0 (dp - wr) - bung from IntWalk.i64_in _ (by show -9223372036854775808 ≤ max 0 (dp - wr) - bung ∧ max 0 (dp - wr) - bung ≤ 9223372036854775807; omega)] at h
theorem dLvFB (hl : xs.length = N * 3) (hc : CaskOk bung xs N) (h1 : 0 ≤ dp) (h2 : dp ≤ 2 * bung) (h3 : 0 ≤ wr) (h4 : wr ≤ 2 * bung) : Dv (D0 s bung dip (zsOf xs day dp wr) O) (lvFB N) (min (2 * bung) (dp + wr) - bung) := by
  have h8 := hc.hi
  have h10 := hc.lo
  have h : Dv (D0 s bung dip (zsOf xs day dp wr) O) (lvFB N) (binN 2 (binN 4 (2 * bung) (binN 1 dp wr)) bung) := .bin (t := 2) (by decide) (.bin (t := 4) (by decide) (dTopV (CaskOk.app hl hc)) (.bin (t := 1) (by decide) (dF1 hl) (dF2 hl))) dBung
  rwa [show binN 1 dp wr = dp + wr from IntWalk.i64_in _ (by omega), show binN 2 (binN 4 (2 * bung) (dp + wr)) bung = min (2 * bung) (dp + wr) - bung from IntWalk.i64_in _ (by show -9223372036854775808 ≤ min (2 * bung) (dp + wr) - bung ∧ min (2 * bung) (dp + wr) - bung ≤ 9223372036854775807; omega)] at h
theorem dVF (hl : xs.length = N * 3) (h1 : 2 ≤ N) {lv : Value} {m : Int} (h : Dv (D0 s bung dip (zsOf xs day dp wr) O) lv (m - bung)) : Dv (D0 s bung dip (zsOf xs day dp wr) O) (fLo lv N) (vLo bung xs N m) ∧ Dv (D0 s bung dip (zsOf xs day dp wr) O) (fHi lv N) (vHi bung xs N m) := by
  obtain ⟨a, b⟩ := loZ_ag (Ag.app (ys := [day, dp, wr]) hl) (m - bung) (N - 1) (by omega)
  have p := dFLo (N := N) h
  have q := dFHi (N := N) h
  rw [a] at p
  rw [b] at q
  exact ⟨p, q⟩
theorem okFf (hl : xs.length = N * 3) (hz : (caskS s bung xs).2 = 0) (hc : CaskOk bung xs N) (f0 : 0 ≤ day) (f1 : day ≤ 100000) (f2 : 0 ≤ dp) (f3 : dp ≤ 2 * bung) (f4 : 0 ≤ wr) (f5 : wr ≤ 2 * bung) {c : Bool} (hcc : decide (100000 < vHi bung xs N (min (2 * bung) (dp + wr))) = c) : ∀ f ∈ factF N c, OkF (D0 s bung dip (zsOf xs day dp wr) O) f := by
  have hcz := CaskOk.app (ys := [day, dp, wr]) hl hc
  have d : Dv (D0 s bung dip (zsOf xs day dp wr) O) (fdFN N) (firstL [0, numE day 0 100000, numE dp 0 (2 * bung), numE wr 0 (2 * bung)]) :=
    app4F (t := 104) (by decide) (.lit 0) (app3 (t := 103) (by decide) (dF0 hl) (.lit 0) (.lit 100000)) (app3 (t := 103) (by decide) (dF1 hl) (.lit 0) (dTopV hcz)) (app3 (t := 103) (by decide) (dF2 hl) (.lit 0) (dTopV hcz))
  rw [firstL_cons0 rfl, numE_yes f0 f1, firstL_cons0 rfl, numE_yes f2 f3, firstL_cons0 rfl, numE_yes f4 f5, firstL_cons0 rfl] at d
  intro f hf
  simp only [factF, List.mem_cons, List.not_mem_nil, or_false] at hf
  rcases hf with rfl | rfl | rfl
  · exact eq_yes (dErrX hl) (.lit 0) hz
  · exact eq_yes d (.lit 0) rfl
  · exact ⟨_, _, .lit 100000, (dVF hl hc.two (dLvFB hl hc f2 f3 f4 f5)).2, hcc⟩
end
/-- what FromDip answers -/
def fdAns (s : ByteArray) (bung day dp wr : Int) (xs : List Int) (N : Nat) : Value :=
  if 100000 < vHi bung xs N (min (2 * bung) (dp + wr)) then .tuple #[.agg #[.string ⟨#[]⟩, .int .i64 0, .int .i64 0, .int .i64 0], .int .i64 8]
  else .tuple #[.agg #[.string s, .int .i64 day, .int .i64 (vLo bung xs N (max 0 (dp - wr))), .int .i64 (vHi bung xs N (min (2 * bung) (dp + wr)))], .int .i64 0]
theorem fd_go {s : ByteArray} {bung day dp wr : Int} {xs : List Int} {N gs os cap : Nat} {w : World} (hl : xs.length = N * 3) (hc : CaskOk bung xs N) (hw : WinAt gs os xs w) (hcap : N ≤ cap) (f2 : 0 ≤ dp) (f3 : dp ≤ 2 * bung) (f4 : 0 ≤ wr) (f5 : wr ≤ 2 * bung) {l : List Fact} {ok} {v : Value}
    (hrun : fstO (evDS (pgE s bung 0 (zsOf xs day dp wr) (fun _ => True) l ok) (spFdP N) 2000 60 (.fn 11) [wiK N, .agg #[hF N 0, hF N 1, hF N 2]] (hpW N) 1) = some v) :
    Calls Try.prog 11 #[.agg #[.string s, .int .i64 bung, .slice (some ⟨gs, os, none⟩) N cap], .agg #[.int .i64 day, .int .i64 dp, .int .i64 wr]] w fun e w' => ∃ M' v', e = .returned v' ∧ VRel (pgE s bung 0 (zsOf xs day dp wr) (fun _ => True) l ok) M' v v' ∧ Below w.heap.size w w' := by
  obtain ⟨ob, hob⟩ : ∃ ob, w.heap[gs]? = some ob := by obtain ⟨c, e, f, h, _⟩ := hw; exact ⟨_, h⟩
  have hcz := CaskOk.app (ys := [day, dp, wr]) hl hc
  have h8 := hc.hi
  have h10 := hc.lo
  have get0 : ∀ id o, (hpW N).get id = some o → id = 0 ∧ o = .win (rowV N) := by
    intro id o e
    unfold hpW at e
    rw [T.get_node] at e
    by_cases hi : id = 0
    · subst hi; simp at e; exact ⟨rfl, e.symm⟩
    · simp [hi, T.get_leaf] at e
  have nw : ∀ id, wrt ((hpW N).get id) = false := fun id => by
    cases e : (hpW N).get id with
    | none => rfl
    | some o => obtain ⟨_, rfl⟩ := get0 id o e; rfl
  have ho := winO (P := pgE s bung 0 (zsOf xs day dp wr) (fun _ => True) l ok) (M := mp1 gs os) (row := rowV N) (by rw [rowV_len, hl]) (rowV_denX hl) hw hob trivial
  have hsp : CallOk (pgE s bung 0 (zsOf xs day dp wr) (fun _ => True) l ok) (spFdP N) :=
    ok_spOr (ok_spNum (ok_numsT rfl rfl)) (ok_spOr (ok_spList (ok_listG rfl rfl)) (ok_spOr (ok_spOr (ok_spCaskW rfl rfl (isName0_rel rfl rfl)) (ok_spAreas rfl rfl (radii_ok hcz))) (ok_spOr (ok_spUp rfl rfl (dLvFA hl hc f2 f3 f4 f5) (by omega) (by omega)) (ok_spUp rfl rfl (dLvFB hl hc f2 f3 f4 f5) (by omega) (by omega)))))
  exact run_ro (M := mp1 gs os) rfl (by kernel_rfl) hsp hrun (args' := #[.agg #[.string s, .int .i64 bung, .slice (some ⟨gs, os, none⟩) N cap], .agg #[.int .i64 day, .int .i64 dp, .int .i64 wr]])
    (LRel.cons (LRel.agg (LRel.cons (.hol (P := pgE s bung 0 (zsOf xs day dp wr) (fun _ => True) l ok) (n := 0) rfl rfl (fun _ => rfl)) (LRel.cons (Dv.vrel (P := pgE s bung 0 (zsOf xs day dp wr) (fun _ => True) l ok) dBung) (LRel.cons (.osk (o := 0) (show mp1 gs os 0 = some (gs, os) from rfl) hcap) (LRel.nil _)))))
      (LRel.cons (LRel.agg (LRel.cons (Dv.vrel (P := pgE s bung 0 (zsOf xs day dp wr) (fun _ => True) l ok) (dF0 hl)) (LRel.cons (Dv.vrel (P := pgE s bung 0 (zsOf xs day dp wr) (fun _ => True) l ok) (dF1 hl)) (LRel.cons (Dv.vrel (P := pgE s bung 0 (zsOf xs day dp wr) (fun _ => True) l ok) (dF2 hl)) (LRel.nil _))))) (LRel.nil _)))
    ⟨fun id o e => by obtain ⟨rfl, rfl⟩ := get0 id o e; exact ⟨gs, os, ob, rfl, Nat.zero_le _, hob, ho⟩, fun i j b r r' hi => by rw [nw i] at hi; cases hi⟩ nw (fun id h1 => if_neg (by omega))
theorem fromDip_any {s : ByteArray} {bung day dp wr : Int} {xs : List Int} {N gs os cap : Nat} (w : World) (hN : N = 2 ∨ N = 3 ∨ N = 4) (hl : xs.length = N * 3) (hw : WinAt gs os xs w) (hcap : N ≤ cap) (hz : (caskS s bung xs).2 = 0) (f0 : 0 ≤ day) (f1 : day ≤ 100000) (f2 : 0 ≤ dp) (f3 : dp ≤ 2 * bung) (f4 : 0 ≤ wr) (f5 : wr ≤ 2 * bung) :
    Calls Try.prog 11 #[.agg #[.string s, .int .i64 bung, .slice (some ⟨gs, os, none⟩) N cap], .agg #[.int .i64 day, .int .i64 dp, .int .i64 wr]] w fun e w' => e = .returned (fdAns s bung day dp wr xs N) ∧ Below w.heap.size w w' := by
  have hc := caskS_ok hl hz
  cases hcc : decide (100000 < vHi bung xs N (min (2 * bung) (dp + wr))) with
  | true =>
    have ok := okFf (s := s) (dip := 0) (O := fun _ => True) hl hz hc f0 f1 f2 f3 f4 f5 hcc
    have hrun : fstO (evDS (pgE s bung 0 (zsOf xs day dp wr) (fun _ => True) (factF N true) ok) (spFdP N) 2000 60 (.fn 11) [wiK N, .agg #[hF N 0, hF N 1, hF N 2]] (hpW N) 1) = some (.tuple #[.agg #[.string ⟨#[]⟩, .int .i64 0, .int .i64 0, .int .i64 0], .int .i64 8]) := by
      rcases hN with rfl | rfl | rfl
      · exact fpBig2 _ _ _ _ _ ok
      · exact fpBig3 _ _ _ _ _ ok
      · exact fpBig4 _ _ _ _ _ ok
    refine Calls.mono (fd_go hl hc hw hcap f2 f3 f4 f5 hrun) ?_
    rintro e w' ⟨M', v', rfl, hvr, hb⟩
    refine ⟨?_, hb⟩
    unfold fdAns
    rw [if_pos (of_decide_eq_true hcc)]
    cases hvr with
    | tup hs h1 =>
      have := LRel.eq (lrel_arr.2 ⟨hs, h1⟩) (fun v hv v' hr => flat2_eq (by
        simp only [List.mem_cons, List.not_mem_nil, or_false] at hv
        rcases hv with rfl | rfl <;> rfl) hr)
      rw [Array.toList_inj.1 this]
  | false =>
    have ok := okFf (s := s) (dip := 0) (O := fun _ => True) hl hz hc f0 f1 f2 f3 f4 f5 hcc
    have hrun : fstO (evDS (pgE s bung 0 (zsOf xs day dp wr) (fun _ => True) (factF N false) ok) (spFdP N) 2000 60 (.fn 11) [wiK N, .agg #[hF N 0, hF N 1, hF N 2]] (hpW N) 1) = some (.tuple #[.agg #[hNm, hF N 0, fLo (lvFA N) N, fHi (lvFB N) N], .int .i64 0]) := by
      rcases hN with rfl | rfl | rfl
      · exact fpRun2 _ _ _ _ _ ok
      · exact fpRun3 _ _ _ _ _ ok
      · exact fpRun4 _ _ _ _ _ ok
    refine Calls.mono (fd_go hl hc hw hcap f2 f3 f4 f5 hrun) ?_
    rintro e w' ⟨M', v', rfl, hvr, hb⟩
    refine ⟨?_, hb⟩
    unfold fdAns
    rw [if_neg (of_decide_eq_false hcc)]
    have d0 := dF0 (s := s) (bung := bung) (dip := 0) (day := day) (dp := dp) (wr := wr) (O := fun _ => True) hl
    have dl := (dVF (s := s) (dip := 0) (day := day) (O := fun _ => True) hl hc.two (dLvFA hl hc f2 f3 f4 f5)).1
    have dh := (dVF (s := s) (dip := 0) (day := day) (O := fun _ => True) hl hc.two (dLvFB hl hc f2 f3 f4 f5)).2
    cases hvr with
    | @tup _ b' hsz hel =>
    have hL := lrel_arr.2 ⟨hsz, hel⟩
    obtain ⟨u0, p0, r0⟩ := hL.get (i := 0) rfl
    obtain ⟨u1, p1, r1⟩ := hL.get (i := 1) rfl
    have hb2 : b' = #[u0, u1] := by
      apply Array.ext'
      have h3 : b'.toList.length = 2 := by rw [← hL.1]; rfl
      match he : b'.toList, h3 with
      | [z0, z1], _ => rw [he] at p0 p1; simp at p0 p1; rw [p0, p1]
    subst hb2
    cases r1
    cases r0 with
    | @agg _ a' hsz2 hel2 =>
    have hA := lrel_arr.2 ⟨hsz2, hel2⟩
    obtain ⟨z0, q0, s0⟩ := hA.get (i := 0) rfl
    obtain ⟨z1, q1, s1⟩ := hA.get (i := 1) rfl
    obtain ⟨z2, q2, s2⟩ := hA.get (i := 2) rfl
    obtain ⟨z3, q3, s3⟩ := hA.get (i := 3) rfl
    have ha4 : a' = #[z0, z1, z2, z3] := by
      apply Array.ext'
      have h3 : a'.toList.length = 4 := by rw [← hA.1]; rfl
      match he : a'.toList, h3 with
      | [y0, y1, y2, y3], _ => rw [he] at q0 q1 q2 q3; simp at q0 q1 q2 q3; rw [q0, q1, q2, q3]
    subst ha4
    have e0 : z0 = .string s := isName0_rel rfl rfl _ (show isName0 hNm = true by rfl) _ _ s0
    obtain ⟨x1, e1, k1⟩ := vrel_num s1 d0.num
    obtain ⟨x2, e2, k2⟩ := vrel_num s2 dl.num
    obtain ⟨x3, e3, k3⟩ := vrel_num s3 dh.num
    subst e0 e1 e2 e3
    rw [← d0.unique _ k1, ← dl.unique _ k2, ← dh.unique _ k3]
end Sy
end Go.Proofs.Ytpfhfphcmomfdaa
