/- GaugeTables of any cask, step and dip. -/
import Derived.Test.YtpidgcmdimjkoaaVN
set_option linter.unusedVariables false
set_option linter.unusedSimpArgs false
namespace Go.Proofs.Ytpidgcmdimjkoaa
open Go.RowKit
namespace Sy
open Go.RowKit

def bA : List Fact := [(2, tI 0, hN 4, true), (2, hN 4, tI 100000, true), (2, tI 0, hN 5, true), (2, hN 5, topV, true), (2, tI 0, hN 6, true), (2, hN 6, topV, true)]
def bN : Nat → Fact
  | 0 => (2, tI 0, hN 4, false)
  | 1 => (2, hN 4, tI 100000, false)
  | 2 => (2, tI 0, hN 5, false)
  | 3 => (2, hN 5, topV, false)
  | 4 => (2, tI 0, hN 6, false)
  | _ => (2, hN 6, topV, false)
def noFD : Value := .tuple #[.agg #[.string ⟨#[]⟩, .int .i64 0, .int .i64 0, .int .i64 0], .int .i64 2]
section
variable (s : ByteArray) (bung : Int) (v : Value) (is : List Int)
theorem fRun0 (ok) : fstO (evDS (pgY s bung v is (bA.take 0 ++ [bN 0]) ok) spNone 2000 60 (.fn 20) [c3, .agg #[hN 4, hN 5, hN 6]] .leaf 0) = some noFD := by kernel_rfl
theorem fRun1 (ok) : fstO (evDS (pgY s bung v is (bA.take 1 ++ [bN 1]) ok) spNone 2000 60 (.fn 20) [c3, .agg #[hN 4, hN 5, hN 6]] .leaf 0) = some noFD := by kernel_rfl
theorem fRun2 (ok) : fstO (evDS (pgY s bung v is (bA.take 2 ++ [bN 2]) ok) spNone 2000 60 (.fn 20) [c3, .agg #[hN 4, hN 5, hN 6]] .leaf 0) = some noFD := by kernel_rfl
theorem fRun3 (ok) : fstO (evDS (pgY s bung v is (bA.take 3 ++ [bN 3]) ok) spNone 2000 60 (.fn 20) [c3, .agg #[hN 4, hN 5, hN 6]] .leaf 0) = some noFD := by kernel_rfl
theorem fRun4 (ok) : fstO (evDS (pgY s bung v is (bA.take 4 ++ [bN 4]) ok) spNone 2000 60 (.fn 20) [c3, .agg #[hN 4, hN 5, hN 6]] .leaf 0) = some noFD := by kernel_rfl
theorem fRun5 (ok) : fstO (evDS (pgY s bung v is (bA.take 5 ++ [bN 5]) ok) spNone 2000 60 (.fn 20) [c3, .agg #[hN 4, hN 5, hN 6]] .leaf 0) = some noFD := by kernel_rfl
end
theorem fd_run {s : ByteArray} {bung day dp wr : Int} {sa : Option Addr} {N cap : Nat} {w : World} {l : List Fact} {ok} (hrun : fstO (evDS (pgY s bung (.slice sa N cap) [day, dp, wr] l ok) spNone 2000 60 (.fn 20) [c3, .agg #[hN 4, hN 5, hN 6]] .leaf 0) = some noFD) :
    Calls Try.prog 20 #[.agg #[.string s, .int .i64 bung, .slice sa N cap], .agg #[.int .i64 day, .int .i64 dp, .int .i64 wr]] w fun e w' => e = .returned noFD ∧ Below w.heap.size w w' := by
  have d4 : Dv (DY s bung (.slice sa N cap) [day, dp, wr]) (hN 4) day := .hole rfl
  have d5 : Dv (DY s bung (.slice sa N cap) [day, dp, wr]) (hN 5) dp := .hole rfl
  have d6 : Dv (DY s bung (.slice sa N cap) [day, dp, wr]) (hN 6) wr := .hole rfl
  refine Calls.mono (run_ro (P := pgY s bung (.slice sa N cap) [day, dp, wr] l ok) (M := fun _ => none) rfl (by kernel_rfl) ok_spNone hrun (args' := #[.agg #[.string s, .int .i64 bung, .slice sa N cap], .agg #[.int .i64 day, .int .i64 dp, .int .i64 wr]])
    (LRel.cons (c3_relY (N := N) rfl _) (LRel.cons (LRel.agg (LRel.cons (Dv.vrel (P := pgY s bung (.slice sa N cap) [day, dp, wr] l ok) d4) (LRel.cons (Dv.vrel (P := pgY s bung (.slice sa N cap) [day, dp, wr] l ok) d5) (LRel.cons (Dv.vrel (P := pgY s bung (.slice sa N cap) [day, dp, wr] l ok) d6) (LRel.nil _))))) (LRel.nil _))) ⟨fun id o e => (by cases e), fun i j b r r' hi => (by cases hi)⟩ (fun _ => rfl) (fun _ _ => rfl)) ?_
  rintro e w' ⟨M', v', rfl, hvr, hwb⟩
  refine ⟨?_, hwb⟩
  unfold noFD at hvr ⊢
  cases hvr with
  | tup hs h1 =>
    have := LRel.eq (lrel_arr.2 ⟨hs, h1⟩) (fun v hv v' hr => flat2_eq (by
      simp only [List.mem_cons, List.not_mem_nil, or_false] at hv
      rcases hv with rfl | rfl <;> rfl) hr)
    rw [Array.toList_inj.1 this]
theorem refFD_bad (s : ByteArray) (bung day dp wr : Int) (sa : Option Addr) (N cap : Nat) (w : World) (hb0 : 0 ≤ bung) (hb1 : bung ≤ 1000) (h : ¬ (0 ≤ day ∧ day ≤ 100000 ∧ 0 ≤ dp ∧ dp ≤ 2 * bung ∧ 0 ≤ wr ∧ wr ≤ 2 * bung)) :
    Calls Try.prog 20 #[.agg #[.string s, .int .i64 bung, .slice sa N cap], .agg #[.int .i64 day, .int .i64 dp, .int .i64 wr]] w fun e w' => e = .returned noFD ∧ Below w.heap.size w w' := by
  have dt : Dv (DY s bung (.slice sa N cap) [day, dp, wr]) topV (2 * bung) := by
    have h : Dv (DY s bung (.slice sa N cap) [day, dp, wr]) topV (binN 3 2 bung) := .bin (t := 3) (by decide) (.lit 2) (.hole rfl)
    rwa [show binN 3 2 bung = 2 * bung from IntWalk.i64_in _ (by omega)] at h
  have d4 : Dv (DY s bung (.slice sa N cap) [day, dp, wr]) (hN 4) day := .hole rfl
  have d5 : Dv (DY s bung (.slice sa N cap) [day, dp, wr]) (hN 5) dp := .hole rfl
  have d6 : Dv (DY s bung (.slice sa N cap) [day, dp, wr]) (hN 6) wr := .hole rfl
  have p0 : ∀ f ∈ bA.take 0, OkF (DY s bung (.slice sa N cap) [day, dp, wr]) f := ok_nil
  by_cases c0 : ¬ (0 ≤ day)
  · exact fd_run (fRun0 s bung _ _ (ok_snoc p0 (le_no (.lit 0) d4 c0)))
  replace c0 : 0 ≤ day := by omega
  have p1 : ∀ f ∈ bA.take 1, OkF (DY s bung (.slice sa N cap) [day, dp, wr]) f := ok_more p0 rfl (le_yes (.lit 0) d4 c0)
  by_cases c1 : ¬ (day ≤ 100000)
  · exact fd_run (fRun1 s bung _ _ (ok_snoc p1 (le_no d4 (.lit 100000) c1)))
  replace c1 : day ≤ 100000 := by omega
  have p2 : ∀ f ∈ bA.take 2, OkF (DY s bung (.slice sa N cap) [day, dp, wr]) f := ok_more p1 rfl (le_yes d4 (.lit 100000) c1)
  by_cases c2 : ¬ (0 ≤ dp)
  · exact fd_run (fRun2 s bung _ _ (ok_snoc p2 (le_no (.lit 0) d5 c2)))
  replace c2 : 0 ≤ dp := by omega
  have p3 : ∀ f ∈ bA.take 3, OkF (DY s bung (.slice sa N cap) [day, dp, wr]) f := ok_more p2 rfl (le_yes (.lit 0) d5 c2)
  by_cases c3 : ¬ (dp ≤ 2 * bung)
  · exact fd_run (fRun3 s bung _ _ (ok_snoc p3 (le_no d5 dt c3)))
  replace c3 : dp ≤ 2 * bung := by omega
  have p4 : ∀ f ∈ bA.take 4, OkF (DY s bung (.slice sa N cap) [day, dp, wr]) f := ok_more p3 rfl (le_yes d5 dt c3)
  by_cases c4 : ¬ (0 ≤ wr)
  · exact fd_run (fRun4 s bung _ _ (ok_snoc p4 (le_no (.lit 0) d6 c4)))
  replace c4 : 0 ≤ wr := by omega
  have p5 : ∀ f ∈ bA.take 5, OkF (DY s bung (.slice sa N cap) [day, dp, wr]) f := ok_more p4 rfl (le_yes (.lit 0) d6 c4)
  by_cases c5 : ¬ (wr ≤ 2 * bung)
  · exact fd_run (fRun5 s bung _ _ (ok_snoc p5 (le_no d6 dt c5)))
  replace c5 : wr ≤ 2 * bung := by omega
  exact absurd ⟨c0, c1, c2, c3, c4, c5⟩ h
theorem ok_spFDR {P : Pg} (hp : P.prog = Try.prog) {s : ByteArray} {bung dip day dp wr : Int} {zs : List Int} {O : Obj → Prop} (hd : P.den = D0 s bung dip zs O) {N : Nat} (h0 : Dv P.den (hX N 0) day) (h1 : Dv P.den (hX N 1) dp) (h2 : Dv P.den (hX N 2) wr) (hb0 : 0 ≤ bung) (hb1 : bung ≤ 1000)
    (hbad : ¬ (0 ≤ day ∧ day ≤ 100000 ∧ 0 ≤ dp ∧ dp ≤ 2 * bung ∧ 0 ≤ wr ∧ wr ≤ 2 * bung)) : CallOk P (spFDR N) := fun t args hp0 nid v hp' nid' h => by
  cases t with
  | yield l => cases h
  | fn g =>
    obtain ⟨hg0, h1'⟩ := ck_some h
    clear h
    simp only [Bool.and_eq_true] at hg0
    have hg := Nat.eq_of_beq_eq_true hg0.1
    subst hg
    obtain ⟨c, hc, h2'⟩ := ob_some h1'
    clear h1'
    obtain ⟨x, hx, h3⟩ := ob_some h2'
    clear h2'
    obtain ⟨cs, rfl, h4⟩ := withAgg_some h3
    clear h3
    obtain ⟨ys, rfl, h5⟩ := withAgg_some h4
    clear h4
    obtain ⟨nm, hnm, h6⟩ := ob_some h5
    clear h5
    obtain ⟨bu, hbu, h7⟩ := ob_some h6
    clear h6
    obtain ⟨st, hst, h8⟩ := ob_some h7
    clear h7
    obtain ⟨b, lt, rfl, h9⟩ := withOsl_some h8
    clear h8
    obtain ⟨n, rfl, h10⟩ := withNat_some h9
    clear h9
    obtain ⟨ya, hya, h11⟩ := ob_some h10
    clear h10
    obtain ⟨yb, hyb, h12⟩ := ob_some h11
    clear h11
    obtain ⟨yc, hyc, h13⟩ := ob_some h12
    clear h12
    obtain ⟨hk, h14⟩ := ck_some h13
    clear h13
    cases h14
    simp only [Bool.and_eq_true] at hk
    obtain ⟨k0, k1, k2, k3, k4, k5, k6⟩ := hk
    have hcs := Nat.eq_of_beq_eq_true k0
    have hys := Nat.eq_of_beq_eq_true k1
    have e3 := eqT_eq _ _ _ k3
    subst e3
    have e4 := eqT_eq _ _ _ k4
    subst e4
    have e5 := eqT_eq _ _ _ k5
    subst e5
    have e6 := eqT_eq _ _ _ k6
    subst e6
    refine ⟨Nat.le_refl _, fun B M args' w ha hh hB hf => ?_⟩
    obtain ⟨a0, q0, r0⟩ := ha.get hc
    obtain ⟨a1, q1, r1⟩ := ha.get hx
    have hlen2 : args'.toList.length = 2 := by rw [← ha.1]; exact Nat.eq_of_beq_eq_true hg0.2
    have hargs : args' = #[a0, a1] := by
      apply Array.ext'
      match he : args'.toList, hlen2 with
      | [z0, z1], _ => rw [he] at q0 q1; simp at q0 q1; rw [q0, q1]
    subst hargs
    cases r1 with
    | @agg _ a'' hsz2 hel2 =>
    have hL2 : LRel P M ys.toList a''.toList := lrel_arr.2 ⟨hsz2, hel2⟩
    obtain ⟨u0, p0, s0⟩ := hL2.get (i := 0) (by simpa using hya)
    obtain ⟨u1, p1, s1⟩ := hL2.get (i := 1) (by simpa using hyb)
    obtain ⟨u2, p2, s2⟩ := hL2.get (i := 2) (by simpa using hyc)
    have hay : a'' = #[u0, u1, u2] := by
      apply Array.ext'
      have h3 : a''.toList.length = 3 := by rw [← hL2.1]; exact hys
      match he : a''.toList, h3 with
      | [z0, z1, z2], _ => rw [he] at p0 p1 p2; simp at p0 p1 p2; rw [p0, p1, p2]
    subst hay
    obtain ⟨y0, f0, d0⟩ := vrel_num s0 h0.num
    obtain ⟨y1, f1, d1⟩ := vrel_num s1 h1.num
    obtain ⟨y2, f2, d2⟩ := vrel_num s2 h2.num
    subst f0 f1 f2
    have g0 := h0.unique _ d0
    have g1 := h1.unique _ d1
    have g2 := h2.unique _ d2
    subst g0 g1 g2
    cases r0 with
    | @agg _ a' hsz hel =>
      have hL : LRel P M cs.toList a'.toList := lrel_arr.2 ⟨hsz, hel⟩
      obtain ⟨v0, t0, s0⟩ := hL.get (i := 0) (by simpa using hnm)
      obtain ⟨v1, t1, s1⟩ := hL.get (i := 1) (by simpa using hbu)
      obtain ⟨v2, t2, s2⟩ := hL.get (i := 2) (by simpa using hst)
      have ha3 : a' = #[v0, v1, v2] := by
        apply Array.ext'
        have h3 : a'.toList.length = 3 := by rw [← hL.1]; exact hcs
        match he : a'.toList, h3 with
        | [z0, z1, z2], _ => rw [he] at t0 t1 t2; simp at t0 t1 t2; rw [t0, t1, t2]
      subst ha3
      have e0 : v0 = .string s := isName0_rel hd rfl _ k2 _ _ s0
      subst e0
      have db : Dv P.den hBung bung := by rw [hd]; exact dBung
      obtain ⟨y9, e1, d9⟩ := vrel_num s1 db.num
      subst e1
      have := db.unique _ d9
      subst this
      cases s2 with
      | @osl _ b' rr n' cc _ hb hn =>
        show Calls P.prog _ _ _ _
        rw [hp]
        refine Calls.mono (refFD_bad s bung day dp wr _ n' cc w hb0 hb1 hbad) ?_
        rintro e w' ⟨rfl, hbl⟩
        obtain ⟨z1, z2⟩ := below_post nid hh hbl
        exact ⟨M, _, rfl, LRel.tup (LRel.cons (LRel.agg (LRel.cons (.str _) (LRel.cons (.int .i64 0) (LRel.cons (.int .i64 0) (LRel.cons (.int .i64 0) (LRel.nil M)))))) (LRel.cons (.int .i64 2) (LRel.nil M))), z1, z2⟩
      | sym h ht => rcases ht with h | h <;> exact absurd h (by decide)
theorem ok_spLv {P : Pg} (hp : P.prog = Try.prog) {s : ByteArray} {hole : Nat → Value} {O : Obj → Prop} (hd : P.den = denG s hole O) {N : Nat} (hr : ∀ r ∈ radiiV N, ∃ ρ : Nat, Dv P.den r ρ ∧ 10 ≤ ρ ∧ ρ ≤ 800) : ∀ (l : List Value), (∀ lv ∈ l, ∃ L, Dv P.den lv L ∧ -10000 ≤ L ∧ L ≤ 10000) → CallOk P (spLv N l)
  | [], _ => fun t args hp0 nid v hp' nid' h => by cases h
  | lv :: l, h => by
    obtain ⟨L, h1, h2, h3⟩ := h lv List.mem_cons_self
    exact ok_spOr (ok_spUp hp hd h1 h2 h3) (ok_spOr (ok_spAreaR hp hd hr h1 h2 h3) (ok_spLv hp hd hr l fun v hv => h v (List.mem_cons_of_mem _ hv)))
theorem app4 {D : Dn} {t : Nat} (ht : 100 ≤ t) {a b c d : Value} {x y u z : Int} (ha : Dv D a x) (hb : Dv D b y) (hc : Dv D c u) (hd : Dv D d z) : Dv D (.iface t (.tuple #[a, b, c, d])) (D.int t [x, y, u, z]) := .app ht rfl (fun i v q hv hz => by
  match i with
  | 0 => simp at hv hz; subst hv hz; exact ha
  | 1 => simp at hv hz; subst hv hz; exact hb
  | 2 => simp at hv hz; subst hv hz; exact hc
  | 3 => simp at hv hz; subst hv hz; exact hd
  | i + 4 => simp at hv)
section
variable {s : ByteArray} {bung dip day dp wr : Int} {xs : List Int} {O : Obj → Prop} {N : Nat}
theorem dX0 (hl : xs.length = N * 3) : Dv (D0 s bung dip (zsOf xs day dp wr) O) (hX N 0) day := dHx hl 0 day rfl
theorem dX1 (hl : xs.length = N * 3) : Dv (D0 s bung dip (zsOf xs day dp wr) O) (hX N 1) dp := dHx hl 1 dp rfl
theorem dX2 (hl : xs.length = N * 3) : Dv (D0 s bung dip (zsOf xs day dp wr) O) (hX N 2) wr := dHx hl 2 wr rfl
theorem okDBT {zs : List Int} {l ok} (hs : smallB s N bung = true) : CallOk (pgT s bung dip zs O l ok) (spDB N) :=
  ok_spOr (ok_spTrue awake04) (ok_spOr (ok_spSmall rfl rfl hs) (ok_spCaskR rfl rfl (isName0_rel rfl rfl)))
theorem okGTA {zs : List Int} {l ok} (hs : smallB s N bung = true) : CallOk (pgT s bung dip zs O l ok) (spGTA N) :=
  ok_spOr (okDBT hs) (ok_spOr (ok_spNum (ok_numsG rfl rfl)) (ok_spOr (ok_spList (ok_listG rfl rfl)) (ok_spCask rfl rfl (isName0_rel rfl rfl))))
theorem okGTB {zs : List Int} {l ok} (hs : smallB s N bung = true) (hc : CaskOk bung zs N) : CallOk (pgT s bung dip zs O l ok) (spGTB N) :=
  ok_spOr (okDBT hs) (ok_spOr (ok_spNum (ok_numsG rfl rfl)) (ok_spOr (ok_spList (ok_listG rfl rfl)) (ok_spOr (ok_spCask rfl rfl (isName0_rel rfl rfl)) (ok_spAreas rfl rfl (radii_ok hc)))))
theorem dKv {zs : List Int} (h0 : 0 ≤ dip) (h1 : dip ≤ 800) : ∀ k : Nat, k ≤ 100 → Dv (D0 s bung dip zs O) (dK k) ((k : Int) * dip)
  | 0, _ => by
    have : Dv (D0 s bung dip zs O) (dK 0) 0 := .lit 0
    rwa [show (((0 : Nat) : Int)) * dip = 0 from Int.zero_mul dip]
  | k + 1, hk => by
    have a := mul_bdT (show 0 ≤ (k : Int) by omega) (show (k : Int) ≤ 100 by omega) h0 h1
    have h : Dv (D0 s bung dip zs O) (dK (k + 1)) (binN 1 ((k : Int) * dip) dip) := .bin (t := 1) (by decide) (dKv h0 h1 k (by omega)) dDip
    rwa [show binN 1 ((k : Int) * dip) dip = ((k + 1 : Nat) : Int) * dip from by
      show IntKind.i64.wrap ((k : Int) * dip + dip) = _
      rw [IntWalk.i64_in _ (by omega), Int.natCast_succ, Int.add_mul, Int.one_mul]] at h
  where mul_bdT {x y m n : Int} (h0 : 0 ≤ x) (h1 : x ≤ m) (h2 : 0 ≤ y) (h3 : y ≤ n) : 0 ≤ x * y ∧ x * y ≤ m * n :=
    ⟨Int.mul_nonneg h0 h2, Int.mul_le_mul h1 h3 h2 (by omega)⟩
theorem dLvD {zs : List Int} (hc : CaskOk bung zs N) {d : Value} {m : Int} (hd : Dv (D0 s bung dip zs O) d m) (h0 : 0 ≤ m) (h1 : m ≤ 2 * bung) : Dv (D0 s bung dip zs O) (lvD d) (m - bung) := by
  have h8 := hc.hi
  have h10 := hc.lo
  have h : Dv (D0 s bung dip zs O) (lvD d) (binN 2 m bung) := .bin (t := 2) (by decide) hd dBung
  rwa [show binN 2 m bung = m - bung from IntWalk.i64_in _ (by omega)] at h
theorem dTLo (hl : xs.length = N * 3) (hc : CaskOk bung xs N) (h1 : 0 ≤ dp) (h2 : dp ≤ 2 * bung) (h3 : 0 ≤ wr) (h4 : wr ≤ 2 * bung) : Dv (D0 s bung dip (zsOf xs day dp wr) O) (tLo N) (max 0 (dp - wr)) := by
  have h8 := hc.hi
  have h : Dv (D0 s bung dip (zsOf xs day dp wr) O) (tLo N) (binN 5 0 (binN 2 dp wr)) := .bin (t := 5) (by decide) (.lit 0) (.bin (t := 2) (by decide) (dX1 hl) (dX2 hl))
  rwa [show binN 2 dp wr = dp - wr from IntWalk.i64_in _ (by omega)] at h
theorem dTHi (hl : xs.length = N * 3) (hc : CaskOk bung xs N) (h1 : 0 ≤ dp) (h2 : dp ≤ 2 * bung) (h3 : 0 ≤ wr) (h4 : wr ≤ 2 * bung) : Dv (D0 s bung dip (zsOf xs day dp wr) O) (tHi N) (min (2 * bung) (dp + wr)) := by
  have h8 := hc.hi
  have h : Dv (D0 s bung dip (zsOf xs day dp wr) O) (tHi N) (binN 4 (2 * bung) (binN 1 dp wr)) := .bin (t := 4) (by decide) (dTopV (CaskOk.app hl hc)) (.bin (t := 1) (by decide) (dX1 hl) (dX2 hl))
  rwa [show binN 1 dp wr = dp + wr from IntWalk.i64_in _ (by omega)] at h
/-- FromDip is asked well -/
def FdOk (bung day dp wr : Int) : Prop := 0 ≤ day ∧ day ≤ 100000 ∧ 0 ≤ dp ∧ dp ≤ 2 * bung ∧ 0 ≤ wr ∧ wr ≤ 2 * bung
/-- so many rows -/
def RowsN (bung dip : Int) (n : Nat) : Prop := 0 ≤ dip ∧ dip ≤ 800 ∧ n ≤ 13 ∧ (∀ k : Nat, k < n → (k : Int) * dip ≤ 2 * bung) ∧ 2 * bung < (n : Int) * dip
theorem okLvR {zs : List Int} (l : List Value) (hc : CaskOk bung zs N) (h0 : 0 ≤ dip) (h1 : dip ≤ 800) : ∀ n : Nat, n ≤ 13 → (∀ k : Nat, k < n → (k : Int) * dip ≤ 2 * bung) → (∀ lv ∈ l, ∃ L, Dv (D0 s bung dip zs O) lv L ∧ -10000 ≤ L ∧ L ≤ 10000) → ∀ lv ∈ lvls l n, ∃ L, Dv (D0 s bung dip zs O) lv L ∧ -10000 ≤ L ∧ L ≤ 10000
  | 0, _, _, h => h
  | n + 1, hn, hk, h => fun lv hlv => by
    rcases List.mem_cons.1 hlv with rfl | hlv
    · have h8 := hc.hi
      have h10 := hc.lo
      have a := hk n (Nat.lt_succ_self n)
      have b : 0 ≤ (n : Int) * dip := Int.mul_nonneg (by omega) h0
      exact ⟨_, dLvD hc (dKv h0 h1 n (by omega)) b a, by omega, by omega⟩
    · exact okLvR l hc h0 h1 n (by omega) (fun k hk' => hk k (by omega)) h lv hlv
theorem okErr {l ok} {n : Nat} (hs : smallB s N bung = true) (hl : xs.length = N * 3) (hc : CaskOk bung xs N) (hr : RowsN bung dip n ∨ n = 0) (hf : ¬ FdOk bung day dp wr) : CallOk (pgT s bung dip (zsOf xs day dp wr) O l ok) (spGT2 N n) := by
  have hcz := CaskOk.app (ys := [day, dp, wr]) hl hc
  have h8 := hc.hi
  have h10 := hc.lo
  have hbase : ∀ lv ∈ ([] : List Value), ∃ L, Dv (D0 s bung dip (zsOf xs day dp wr) O) lv L ∧ -10000 ≤ L ∧ L ≤ 10000 := fun lv h => by cases h
  refine ok_spOr (ok_spFDR rfl rfl (dX0 hl) (dX1 hl) (dX2 hl) (by omega) (by omega) hf) (ok_spOr (okGTB hs hcz) (ok_spLv rfl rfl (radii_ok hcz) _ ?_))
  rcases hr with ⟨h0, h1, h2, h3, _⟩ | rfl
  · exact okLvR _ hcz h0 h1 n h2 h3 hbase
  · exact hbase
theorem okGood {l ok} {n : Nat} (hs : smallB s N bung = true) (hl : xs.length = N * 3) (hc : CaskOk bung xs N) (hr : RowsN bung dip n ∨ n = 0) (hf : FdOk bung day dp wr) : CallOk (pgT s bung dip (zsOf xs day dp wr) O l ok) (spGTT N n) := by
  have hcz := CaskOk.app (ys := [day, dp, wr]) hl hc
  have h8 := hc.hi
  have h10 := hc.lo
  obtain ⟨f0, f1, f2, f3, f4, f5⟩ := hf
  have hbase : ∀ lv ∈ [lvD (tLo N), lvD (tHi N)], ∃ L, Dv (D0 s bung dip (zsOf xs day dp wr) O) lv L ∧ -10000 ≤ L ∧ L ≤ 10000 := fun lv h => by
    simp only [List.mem_cons, List.not_mem_nil, or_false] at h
    rcases h with rfl | rfl
    · exact ⟨_, dLvD hcz (dTLo hl hc f2 f3 f4 f5) (by omega) (by omega), by omega, by omega⟩
    · exact ⟨_, dLvD hcz (dTHi hl hc f2 f3 f4 f5) (by omega) (by omega), by omega, by omega⟩
  refine ok_spOr (okGTB hs hcz) (ok_spLv rfl rfl (radii_ok hcz) _ ?_)
  rcases hr with ⟨h0, h1, h2, h3, _⟩ | rfl
  · exact okLvR _ hcz h0 h1 n h2 h3 hbase
  · exact hbase
theorem okRowF {zs : List Int} (hc : CaskOk bung zs N) (h0 : 0 ≤ dip) (h1 : dip ≤ 800) : ∀ n k : Nat, n + k ≤ 13 → (∀ i : Nat, i < n + k → (i : Int) * dip ≤ 2 * bung) → 2 * bung < ((n + k : Nat) : Int) * dip → ∀ f ∈ rowF n k, OkF (D0 s bung dip zs O) f
  | 0, k, hn, _, h, f, hf => by
    simp only [rowF, List.mem_cons, List.not_mem_nil, or_false] at hf
    subst hf
    rw [Nat.zero_add] at h
    exact le_no (dKv h0 h1 k (by omega)) (dTopV hc) (by omega)
  | n + 1, k, hn, hi, h, f, hf => by
    rcases List.mem_cons.1 hf with rfl | hf
    · exact le_yes (dKv h0 h1 k (by omega)) (dTopV hc) (hi k (by omega))
    · exact okRowF hc h0 h1 n (k + 1) (by omega) (fun i h => hi i (by omega)) (by rwa [show n + (k + 1) = n + 1 + k by omega]) f hf
theorem dStE {zs : List Int} {e : Value} {z : Int} (he : Dv (D0 s bung dip zs O) e z) : Dv (D0 s bung dip zs O) (stE e) (firstL [z, numE dip 10 800]) := app2 (t := 104) (by decide) he (app3 (t := 103) (by decide) dDip (.lit 10) (.lit 800))
theorem dFd {e top : Value} {z t : Int} (hl : xs.length = N * 3) (he : Dv (D0 s bung dip (zsOf xs day dp wr) O) e z) (ht : Dv (D0 s bung dip (zsOf xs day dp wr) O) top t) : Dv (D0 s bung dip (zsOf xs day dp wr) O) (fdE N e top) (firstL [z, numE day 0 100000, numE dp 0 t, numE wr 0 t]) :=
  app4 (t := 104) (by decide) he (app3 (t := 103) (by decide) (dX0 hl) (.lit 0) (.lit 100000)) (app3 (t := 103) (by decide) (dX1 hl) (.lit 0) ht) (app3 (t := 103) (by decide) (dX2 hl) (.lit 0) ht)
theorem stF_eq (n : Nat) (hn : n ≤ 13) : stF n = stG ++ rowF n 0 := by
  match n, hn with
  | 0, _ => rfl
  | 1, _ => rfl
  | 2, _ => rfl
  | 3, _ => rfl
  | 4, _ => rfl
  | 5, _ => rfl
  | 6, _ => rfl
  | 7, _ => rfl
  | 8, _ => rfl
  | 9, _ => rfl
  | 10, _ => rfl
  | 11, _ => rfl
  | 12, _ => rfl
  | 13, _ => rfl
/-- how TableOf goes -/
def StIs (bung dip : Int) (n : Nat) : Prop := (10 ≤ dip ∧ RowsN bung dip n) ∨ (n = 100 ∧ dip < 10) ∨ (n = 101 ∧ 800 < dip)
theorem okStF {zs : List Int} {n : Nat} (hc : CaskOk bung zs N) (h : StIs bung dip n) : ∀ f ∈ stF n, OkF (D0 s bung dip zs O) f := by
  have d := dStE (dip := dip) (zs := zs) (s := s) (bung := bung) (O := O) (e := tI 0) (z := 0) (.lit 0)
  rw [firstL_cons0 rfl] at d
  rcases h with ⟨h10, h0, h1, h2, h3, h4⟩ | ⟨rfl, h⟩ | ⟨rfl, h⟩
  · rw [stF_eq n h2]
    rw [numE_yes h10 h1] at d
    intro f hf
    rcases List.mem_append.1 hf with hf | hf
    · simp only [stG, List.mem_cons, List.not_mem_nil, or_false] at hf
      rcases hf with rfl | rfl | rfl
      · exact eq_yes d (.lit 0) rfl
      · exact le_yes (.lit 10) dDip h10
      · exact le_yes dDip (.lit 800) h1
    · exact okRowF hc h0 h1 n 0 h2 (fun i hi => h3 i hi) h4 f hf
  · rw [numE_no (.inl h)] at d
    intro f hf
    simp only [stF, stL, List.mem_cons, List.not_mem_nil, or_false] at hf
    rcases hf with rfl | rfl | rfl
    · exact eq_no d (.lit 0) (by decide)
    · exact eq_yes d (.lit 2) rfl
    · exact le_no (.lit 10) dDip (by omega)
  · rw [numE_no (.inr h)] at d
    intro f hf
    simp only [stF, stH, List.mem_cons, List.not_mem_nil, or_false] at hf
    rcases hf with rfl | rfl | rfl | rfl
    · exact eq_no d (.lit 0) (by decide)
    · exact eq_yes d (.lit 2) rfl
    · exact le_yes (.lit 10) dDip (by omega)
    · exact le_no dDip (.lit 800) (by omega)
/-- the greatest volume that a dip may stand for -/
def topVol (bung dp wr : Int) (zs : List Int) (N : Nat) : Int := ceilP (hiZ (min (2 * bung) (dp + wr) - bung) zs (N - 1))
theorem okFd (hl : xs.length = N * 3) (hc : CaskOk bung xs N) (hf : FdOk bung day dp wr) {c : Bool} (hcc : decide (100000 < topVol bung dp wr (zsOf xs day dp wr) N) = c) : ∀ f ∈ fdG N c, OkF (D0 s bung dip (zsOf xs day dp wr) O) f := by
  have hcz := CaskOk.app (ys := [day, dp, wr]) hl hc
  have h10 := hc.lo
  obtain ⟨f0, f1, f2, f3, f4, f5⟩ := hf
  have d := dFd (s := s) (bung := bung) (dip := dip) (day := day) (dp := dp) (wr := wr) (O := O) (e := tI 0) (z := 0) hl (.lit 0) (dTopV hcz)
  rw [firstL_cons0 rfl, numE_yes f0 f1, firstL_cons0 rfl, numE_yes f2 f3, firstL_cons0 rfl, numE_yes f4 f5, firstL_cons0 rfl] at d
  intro f hf
  simp only [fdG, fdA, List.mem_cons, List.mem_append, List.not_mem_nil, or_false] at hf
  rcases hf with rfl | (rfl | rfl | rfl | rfl | rfl | rfl) | rfl
  · exact eq_yes d (.lit 0) rfl
  · exact le_yes (.lit 0) (dX0 hl) f0
  · exact le_yes (dX0 hl) (.lit 100000) f1
  · exact le_yes (.lit 0) (dX1 hl) f2
  · exact le_yes (dX1 hl) (dTopV hcz) f3
  · exact le_yes (.lit 0) (dX2 hl) f4
  · exact le_yes (dX2 hl) (dTopV hcz) f5
  · exact ⟨_, _, .lit 100000, dFHi (dLvD hcz (dTHi hl hc f2 f3 f4 f5) (by omega) (by omega)), hcc⟩
theorem okFdB (hl : xs.length = N * 3) (hc : CaskOk bung xs N) (hf : ¬ FdOk bung day dp wr) : ∀ f ∈ fdB N, OkF (D0 s bung dip (zsOf xs day dp wr) O) f := by
  have hcz := CaskOk.app (ys := [day, dp, wr]) hl hc
  have d := dFd (s := s) (bung := bung) (dip := dip) (day := day) (dp := dp) (wr := wr) (O := O) (e := tI 0) (z := 0) hl (.lit 0) (dTopV hcz)
  have e : firstL [0, numE day 0 100000, numE dp 0 (2 * bung), numE wr 0 (2 * bung)] = 2 := by
    rw [firstL_cons0 rfl]
    by_cases c0 : 0 ≤ day ∧ day ≤ 100000
    · rw [firstL_cons0 (numE_yes c0.1 c0.2)]
      by_cases c1 : 0 ≤ dp ∧ dp ≤ 2 * bung
      · rw [firstL_cons0 (numE_yes c1.1 c1.2)]
        by_cases c2 : 0 ≤ wr ∧ wr ≤ 2 * bung
        · exact absurd ⟨c0.1, c0.2, c1.1, c1.2, c2.1, c2.2⟩ hf
        · have e := numE_no (n := wr) (lo := 0) (hi := 2 * bung) (by omega)
          rw [firstL_cons1 (by rw [e]; decide), e]
      · have e := numE_no (n := dp) (lo := 0) (hi := 2 * bung) (by omega)
        rw [firstL_cons1 (by rw [e]; decide), e]
    · have e := numE_no (n := day) (lo := 0) (hi := 100000) (by omega)
      rw [firstL_cons1 (by rw [e]; decide), e]
  rw [e] at d
  intro f hf
  simp only [fdB, List.mem_cons, List.not_mem_nil, or_false] at hf
  rcases hf with rfl | rfl
  · exact eq_no d (.lit 0) (by decide)
  · exact eq_yes d (.lit 2) rfl
theorem okAllT {n j : Nat} (hl : xs.length = N * 3) (hz : (caskS s bung xs).2 = 0) (hc : CaskOk bung xs N) (h : StIs bung dip n) (hj : ∀ f ∈ fdF N j, OkF (D0 s bung dip (zsOf xs day dp wr) O) f) : ∀ f ∈ tAll N n j, OkF (D0 s bung dip (zsOf xs day dp wr) O) f := by
  intro f hf
  rcases List.mem_cons.1 hf with rfl | hf
  · exact eq_yes (dErrX hl) (.lit 0) hz
  · rcases List.mem_append.1 hf with hf | hf
    · exact okStF (CaskOk.app hl hc) h f hf
    · exact hj f hf
theorem okTBad (hl : xs.length = N * 3) (hz : (caskS s bung xs).2 ≠ 0) : ∀ f ∈ tBad N, OkF (D0 s bung dip (zsOf xs day dp wr) O) f := by
  have de := dErrX (s := s) (bung := bung) (dip := dip) (d1 := day) (y0 := dp) (y1 := wr) (O := O) hl
  have d1 := dStE de
  have d2 := dFd hl de (.lit 0)
  rw [firstL_cons1 hz] at d1 d2
  intro f hf
  simp only [tBad, List.mem_cons, List.not_mem_nil, or_false] at hf
  rcases hf with rfl | rfl | rfl | rfl | rfl
  · exact eq_no de (.lit 0) hz
  · exact eq_no d1 (.lit 0) hz
  · exact eq_yes d1 de rfl
  · exact eq_no d2 (.lit 0) hz
  · exact eq_yes d2 de rfl
end
/-- how many rows -/
theorem rows_are {bung dip : Int} (h10 : 10 ≤ bung) (h60 : bung ≤ 60) : ∃ n, StIs bung dip n ∧ (n = 100 ∨ n = 101 ∨ (1 ≤ n ∧ n ≤ 13)) := by
  by_cases c0 : dip < 10
  · exact ⟨100, .inr (.inl ⟨rfl, c0⟩), .inl rfl⟩
  by_cases c1 : 800 < dip
  · exact ⟨101, .inr (.inr ⟨rfl, c1⟩), .inr (.inl rfl)⟩
  have hp : 0 < dip := by omega
  have e1 := Int.mul_ediv_add_emod (2 * bung) dip
  have e2 := Int.emod_nonneg (2 * bung) (show dip ≠ 0 by omega)
  have e3 := Int.emod_lt_of_pos (2 * bung) hp
  have e4 : 0 ≤ 2 * bung / dip := Int.ediv_nonneg (by omega) (by omega)
  have e5 : 2 * bung / dip ≤ 12 := by
    have : 2 * bung / dip ≤ 2 * bung / 10 := by
      rw [Int.le_ediv_iff_mul_le (by decide)]
      have : (2 * bung / dip) * 10 ≤ (2 * bung / dip) * dip := Int.mul_le_mul_of_nonneg_left (by omega) e4
      have e6 : (2 * bung / dip) * dip = dip * (2 * bung / dip) := Int.mul_comm _ _
      omega
    omega
  obtain ⟨q, hq⟩ : ∃ q : Nat, 2 * bung / dip = (q : Int) := ⟨(2 * bung / dip).toNat, by omega⟩
  rw [hq] at e1 e4 e5
  have e7 : dip * (q : Int) = (q : Int) * dip := Int.mul_comm _ _
  refine ⟨q + 1, .inl ⟨by omega, by omega, by omega, by omega, fun k hk => ?_, ?_⟩, by omega⟩
  · have : (k : Int) * dip ≤ (q : Int) * dip := Int.mul_le_mul_of_nonneg_right (by omega) (by omega)
    omega
  · rw [show ((q + 1 : Nat) : Int) * dip = (q : Int) * dip + dip from by rw [Int.natCast_succ, Int.add_mul, Int.one_mul]]
    omega
end Sy
end Go.Proofs.Ytpidgcmdimjkoaa
