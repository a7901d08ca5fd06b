/- What the law PlanYears asks: what is known of the small calls. -/
import Derived.Test.YtdejmleboflopaaGreatYD1
set_option linter.unusedVariables false
set_option linter.unusedSimpArgs false
namespace Go.Proofs.YtdejmleboflopaaGreat
open Go.RowKit
namespace Sy
open Go.RowKit

/-! The same of another list of facts. -/
theorem SlR.congr {P P' : Pg} (hd : P'.den = P.den) (hp : P'.prog = P.prog) {w : World} {o : AObj} {t v : Value} (h : SlR P w o t v) : SlR P' w o t v := by
  obtain ⟨b, r, n, c, ob, h1, h2, h3, h4⟩ := h
  exact ⟨b, r, n, c, ob, h1, by rw [hd]; exact h2, h3, fun M => (h4 M).congr hd hp⟩
theorem PtR.congr {P P' : Pg} (hd : P'.den = P.den) (hp : P'.prog = P.prog) {w : World} {p : Pt} {v : Value} (h : PtR P w p v) : PtR P' w p v := by
  cases p with
  | v x => exact fun M => (h M).congr hd
  | s o t => exact SlR.congr hd hp h
  | a o t x =>
    obtain ⟨s, u, h1, h2, h3⟩ := h
    exact ⟨s, u, h1, h2.congr hd hp, fun M => (h3 M).congr hd⟩
theorem PtsR.congr {P P' : Pg} (hd : P'.den = P.den) (hp : P'.prog = P.prog) {w : World} : ∀ {ps : List Pt} {vs : List Value}, PtsR P w ps vs → PtsR P' w ps vs
  | [], [], _ => trivial
  | _ :: _, _ :: _, h => ⟨h.1.congr hd hp, PtsR.congr hd hp h.2⟩
  | [], _ :: _, h => h.elim
  | _ :: _, [], h => h.elim
theorem EntOk.congr {P P' : Pg} (hd : P'.den = P.den) (hp : P'.prog = P.prog) {e : Ent} (h : EntOk P e) : EntOk P' e := fun args' w k => by
  rw [hp]
  refine Calls.mono (h args' w (k.congr hd.symm hp.symm)) ?_
  rintro r w' ⟨hb, hr⟩
  refine ⟨hb, ?_⟩
  obtain ⟨f, pats, res⟩ := e
  cases res with
  | v x =>
    obtain ⟨v', h1, h2⟩ := hr
    exact ⟨v', h1, fun M => (h2 M).congr hd⟩
  | n o mk =>
    obtain ⟨v', b, ob, h1, h2, h3, h4, h5⟩ := hr
    exact ⟨v', b, ob, h1, h2, h3, fun M => (h4 M).congr hd hp, fun M id k => (h5 M id k).congr hd⟩
theorem nilZ {Y : Yr} : ∀ f ∈ ([] : List Fact), OkF (DZ Y) f := fun f h => by cases h
abbrev EntZ (Y : Yr) (e : Ent) : Prop := EntOk (pgY Y [] nilZ) e
theorem EntOk.toZ {Y : Yr} {l ok} {e : Ent} (h : EntOk (pgY Y l ok) e) : EntZ Y e := EntOk.congr (P := pgY Y l ok) (P' := pgY Y [] nilZ) rfl rfl h
theorem EntOk.ofZ {Y : Yr} {l ok} {e : Ent} (h : EntZ Y e) : EntOk (pgY Y l ok) e := EntOk.congr (P := pgY Y [] nilZ) (P' := pgY Y l ok) rfl rfl h
def nwE (e : Ent) : Prop := ∀ o mk, e.res = .n o mk → wrt (some o) = false
theorem ok_spY {Y : Yr} {l : List Fact} {ok} {L : List Ent} (h : ∀ e ∈ L, EntZ Y e ∧ nwE e) : CallOk (pgY Y l ok) (spY L) :=
  ok_spOr (ok_spEnts (fun e he => (h e he).1.ofZ) (fun e he => (h e he).2)) (ok_spCk rfl rfl)

section
variable {Y : Yr}
/-! Patterns. -/
abbrev PR (Y : Yr) (w : World) (p : Pt) (v : Value) : Prop := PtR (pgY Y [] nilZ) w p v
abbrev SysPat (Y : Yr) (p : Pt) : Prop := ∀ w v, PR Y w p v → SysV Y.nw Y.sc Y.n w v
abbrev LstPat (Y : Yr) (c : Nat) (g : Nat → Int) (n : Nat) (p : Pt) : Prop := ∀ w v, PR Y w p v → LstV c g n w v
theorem obj53 {xs : List Int} {ob : Obj} : objZ Y 53 xs ob = atC ob 0 (4 * Y.n) Y.sc := rfl
theorem obj54 {xs : List Int} {ob : Obj} : objZ Y 54 xs ob = atC ob 0 (2 * Y.m) Y.bg := rfl
theorem obj55 {xs : List Int} {ob : Obj} : objZ Y 55 xs ob = atC ob 0 Y.k Y.dr := rfl
theorem obj70 {y : Nat} (hy : y < 10) {xs : List Int} {ob : Obj} : objZ Y (70 + y) xs ob = atC ob 0 (2 * Y.n) (agV Y y) := by
  unfold objZ
  rw [if_neg (by omega), if_neg (by omega), if_neg (by omega), if_pos (by omega), show 70 + y - 70 = y by omega]
theorem obj80 {y : Nat} (hy : y < 10) {xs : List Int} {ob : Obj} : objZ Y (80 + y) xs ob = atC ob 0 (2 * Y.n) (flowV Y.sc (Y.dr y)) := by
  unfold objZ
  rw [if_neg (by omega), if_neg (by omega), if_neg (by omega), if_neg (by omega), if_pos (by omega), show 80 + y - 80 = y by omega]
theorem obj200 {xs : List Int} {ob : Obj} : objZ Y 200 xs ob = (xs = [(Y.os : Int)] ∧ atC ob Y.os (4 * Y.n) Y.sc) := rfl
theorem obj201 {xs : List Int} {ob : Obj} : objZ Y 201 xs ob = (xs = [(Y.ob : Int)] ∧ atC ob Y.ob (2 * Y.m) Y.bg) := rfl
theorem obj202 {xs : List Int} {ob : Obj} : objZ Y 202 xs ob = (xs = [(Y.od : Int)] ∧ atC ob Y.od Y.k Y.dr) := rfl
theorem lo_at {k r : Nat} {ob : Obj} (hk : k < 200) (h : ∀ M, ORel (pgY Y [] nilZ) M r (.opq k []) ob) : r = 0 ∧ objZ Y k [] ob := (opq_lo hk).1 h
theorem hi_at {k r o : Nat} {ob : Obj} {Q : Prop} (hk : 200 ≤ k) (e : ∀ xs, objZ Y k xs ob = (xs = [(o : Int)] ∧ Q)) (h : ∀ M, ORel (pgY Y [] nilZ) M r (.opq k []) ob) : r = o ∧ Q := by
  have h1 : objZ Y k [(r : Int)] ob := (opq_hi (P := pgY Y [] nilZ) hk).1 h
  rw [e] at h1
  exact ⟨by have := h1.1; simp at this; omega, h1.2⟩
theorem sysA : SysPat Y sA := fun w v h => a_sys h zN zNew fun r ob k => by
  obtain ⟨rfl, h2⟩ := lo_at (by decide) k
  exact h2
theorem sysOr : SysPat Y sO := fun w v h => a_sys h zN zNew fun r ob k => by
  obtain ⟨rfl, h2⟩ := hi_at (by decide) (fun xs => obj200) k
  exact h2
theorem zRow {N : Nat} (h4 : N ≤ 4) : ∀ (i : Nat) (v : Value), (rowS N)[i]? = some v → Dv (DZ Y) v (Y.sc i) := map_dv fun i hi => by
  have := zSc (Y := Y) (i := i / 4) (j := i % 4) (by omega) (by omega)
  unfold hSc at this
  rwa [show 1 + 4 * (i / 4) + i % 4 = 1 + i by omega, show 4 * (i / 4) + i % 4 = i by omega] at this
theorem sysWn {N : Nat} (hN : N = Y.n) (h4 : N ≤ 4) : SysPat Y (pS N) := fun w v h => by
  subst hN
  exact a_sys h (.lit ((Y.n : Nat) : Int)) zNew fun r ob k => by have := win_at k (zRow h4); simpa [rowS] using this
theorem lstBA : LstPat Y 2 Y.bg Y.m bA := fun w v h => sl_lst h zM fun r ob k => by
  obtain ⟨rfl, h2⟩ := lo_at (by decide) k
  exact h2
theorem lstBO : LstPat Y 2 Y.bg Y.m bO := fun w v h => sl_lst h zM fun r ob k => by
  obtain ⟨rfl, h2⟩ := hi_at (by decide) (fun xs => obj201) k
  exact h2
theorem lstDA : LstPat Y 1 Y.dr Y.k dA := fun w v h => sl_lst h zK fun r ob k => by
  obtain ⟨rfl, h2⟩ := lo_at (by decide) k
  rw [obj55] at h2
  rwa [Nat.one_mul]
theorem lstDO : LstPat Y 1 Y.dr Y.k dOr := fun w v h => sl_lst h zK fun r ob k => by
  obtain ⟨rfl, h2⟩ := hi_at (by decide) (fun xs => obj202) k
  rwa [Nat.one_mul]
theorem zRowD {K : Nat} (h : K ≤ 40) : ∀ (i : Nat) (v : Value), (rowD K)[i]? = some v → Dv (DZ Y) v (Y.dr i) := map_dv fun i hi => zD (by omega)
theorem lstDW {K : Nat} (hK : K = Y.k) (h : K ≤ 40) : LstPat Y 1 Y.dr Y.k (dW K) := fun w v k => by
  subst hK
  exact sl_lst k (.lit ((Y.k : Nat) : Int)) fun r ob k => by have := win_at k (zRowD h); simpa [rowD] using this
theorem lstAg {y : Nat} (hy : y < 10) {t : Value} (ht : Dv (DZ Y) t Y.n) : LstPat Y 2 (agV Y y) Y.n (.s (.opq (70 + y) []) t) := fun w v h => sl_lst h ht fun r ob k => by
  obtain ⟨rfl, h2⟩ := lo_at (by omega) k
  rwa [obj70 hy] at h2
theorem lstFl {y : Nat} (hy : y < 10) {t : Value} (ht : Dv (DZ Y) t Y.n) : LstPat Y 2 (flowV Y.sc (Y.dr y)) Y.n (.s (.opq (80 + y) []) t) := fun w v h => sl_lst h ht fun r ob k => by
  obtain ⟨rfl, h2⟩ := lo_at (by omega) k
  rwa [obj80 hy] at h2
theorem zRowA {y N : Nat} (hy : y ≤ 6) (h4 : N ≤ 4) : ∀ (i : Nat) (v : Value), (rowA y N)[i]? = some v → Dv (DZ Y) v (agV Y y i) := fun i v hv => by
  rw [rowA, flat2g] at hv
  split at hv
  · cases hv
    by_cases h : i % 2 = 0
    · rw [if_pos h]
      have := zA (Y := Y) (y := y) (i := i / 2) (j := 0) hy (by omega) (by decide)
      rwa [show 2 * (i / 2) + 0 = i by omega] at this
    · rw [if_neg h]
      have := zA (Y := Y) (y := y) (i := i / 2) (j := 1) hy (by omega) (by decide)
      rwa [show 2 * (i / 2) + 1 = i by omega] at this
  · cases hv
theorem lstAw {y N : Nat} (hy : y ≤ 6) (hN : N = Y.n) (h4 : N ≤ 4) : LstPat Y 2 (agV Y y) Y.n (.s (.win (rowA y N)) (iP N)) := fun w v h => by
  subst hN
  exact sl_lst h (.lit ((Y.n : Nat) : Int)) fun r ob k => by have := win_at k (zRowA hy h4); rwa [rowA, len2] at this
theorem agO_pat {y : Nat} (hy : y < 10) (hm : Y.m = Y.n) : LstPat Y 2 (agV Y y) Y.n (agO y) := by
  unfold agO
  split
  · rename_i h; subst h; have := lstBA (Y := Y); rwa [hm] at this
  · exact lstAg hy zN
theorem agW_pat {y N : Nat} (hy : y ≤ 6) (hN : N = Y.n) (h4 : N ≤ 4) (hm : Y.m = Y.n) : LstPat Y 2 (agV Y y) Y.n (agW y N) := by
  unfold agW
  split
  · rename_i h; subst h; have := lstBA (Y := Y); rwa [hm] at this
  · exact lstAw hy hN h4
/-- objects that are answered -/
theorem lo_or {k : Nat} {ob : Obj} (hk : k < 200) (h : objZ Y k [] ob) (M : Mp) : ORel (pgY Y [] nilZ) M 0 (.opq k []) ob := (opq_lo (P := pgY Y [] nilZ) hk).2 ⟨rfl, h⟩ M

theorem lst_res2 {P : Pg} {n : Nat} {bl : List Nat} {w w' : World} {b cap : Nat} {ob : Obj} {t : Value} (ht : Dv P.den t n) (hb : w.heap.size ≤ b) (hw : w'.heap[b]? = some ob) {o : AObj} (ho : ∀ M, ORel P M 0 o ob) :
    ResOk P bl w w' (.n o (osl t)) (.returned (.slice (some ⟨b, 0, none⟩) n cap)) := lst_res (c := 0) (g := fun _ => 0) ht hb hw ho

/-! The calls. -/
theorem z_fl {p : Pt} {t : Value} {y : Nat} (hs : SysPat Y p) (hN : 1 ≤ Y.n ∧ Y.n ≤ 4) (ht : Dv (DZ Y) t Y.n) (hy : y < 10) : EntZ Y (eFl p t y) := fun args' w h => by
  obtain ⟨a, b, rfl, h1, h2⟩ := pts2 h
  obtain ⟨gs, os, cap, rfl, hw⟩ := hs _ _ h1
  obtain rfl := pt_num h2 (zD (by omega))
  refine Calls.mono (fl_key hN hw) ?_
  rintro e w' ⟨hb, v, rfl, b', c, rfl, hge, hwin⟩
  obtain ⟨ob, k1, k2⟩ := winP_at.1 hwin
  exact ⟨hb, lst_res2 ht hge k1 (lo_or (by omega) (by rw [obj80 hy]; exact k2))⟩
theorem z_behind {p q f : Pt} {t : Value} {y : Nat} {o : AObj} (hs : SysPat Y p) (hq : LstPat Y 2 (agV Y y) Y.n q) (hf : LstPat Y 2 (flowV Y.sc (Y.dr y)) Y.n f) (hN : 1 ≤ Y.n ∧ Y.n ≤ 4) (v0 : ∀ i, i < Y.n → 1 ≤ Y.sc (4 * i + 0)) (ht : Dv (DZ Y) t Y.n)
    (ho : ∀ ob, atC ob 0 (2 * Y.n) (agV Y (y + 1)) → ∀ M, ORel (pgY Y [] nilZ) M 0 o ob) : EntZ Y ⟨36, [p, q, f], .n o (osl t)⟩ := fun args' w h => by
  obtain ⟨a, b, c, rfl, h1, h2, h3⟩ := pts3 h
  obtain ⟨gs, os, cap, rfl, hw⟩ := hs _ _ h1
  obtain ⟨gb, ob, cb, rfl, hwb⟩ := hq _ _ h2
  obtain ⟨gf, of, cf, rfl, hwf⟩ := hf _ _ h3
  refine Calls.mono (bh_key hN v0 hw hwb hwf) ?_
  rintro e w' ⟨hb, v, rfl, b', c', rfl, hge, hwin⟩
  obtain ⟨obj, k1, k2⟩ := winP_at.1 hwin
  exact ⟨hb, lst_res2 ht hge k1 (ho obj k2)⟩
theorem z_bh {y : Nat} (hy : y < 6) (hm : Y.m = Y.n) (hN : 1 ≤ Y.n ∧ Y.n ≤ 4) (v0 : ∀ i, i < Y.n → 1 ≤ Y.sc (4 * i + 0)) : EntZ Y (eBh y) :=
  z_behind sysA (agO_pat (by omega) hm) (lstFl (by omega) zN) hN v0 zN fun ob h => lo_or (by omega) (by rw [show 71 + y = 70 + (y + 1) by omega, obj70 (by omega)]; exact h)
theorem z_bw {N y : Nat} (hy : y < 6) (hn : N = Y.n) (hm : Y.m = Y.n) (hN : 1 ≤ Y.n ∧ Y.n ≤ 4) (v0 : ∀ i, i < Y.n → 1 ≤ Y.sc (4 * i + 0)) : EntZ Y (eBw N y) := by
  subst hn
  exact z_behind (sysWn rfl hN.2) (agW_pat (by omega) rfl hN.2 hm) (lstFl (by omega) (.lit ((Y.n : Nat) : Int))) hN v0 (.lit ((Y.n : Nat) : Int)) fun ob h => at_win (P := pgY Y [] nilZ) (fun _ => trivial) (by rw [rowA, len2]; exact h) (zRowA (by omega) hN.2)
theorem agR_pat {y : Nat} (hy : y < 10) (hm : Y.m = Y.n) : LstPat Y 2 (agV Y y) Y.n (agR y) := agO_pat hy hm
theorem z_yr {y : Nat} (hy : y < 6) (hm : Y.m = Y.n) (hN : 1 ≤ Y.n ∧ Y.n ≤ 4) (v0 : ∀ i, i < Y.n → 1 ≤ Y.sc (4 * i + 0)) (hz : fullZ Y.sc Y.n (Y.dr y) = false) : EntZ Y (eYr y) := fun args' w h => by
  obtain ⟨a, b, c, rfl, h1, h2, h3⟩ := pts3 h
  obtain ⟨gs, os, cap, rfl, hw⟩ := sysOr _ _ h1
  obtain ⟨gb, ob, cb, rfl, hwb⟩ := agR_pat (by omega) hm _ _ h2
  obtain rfl := pt_num h3 (zD (by omega))
  refine Calls.mono (ye_key hN v0 hw hwb) ?_
  rintro e w' ⟨hb, ⟨_, v, rfl, b', c', rfl, hge, hwin⟩ | ⟨hz', _⟩⟩
  · obtain ⟨obj, k1, k2⟩ := winP_at.1 hwin
    exact ⟨hb, _, b', obj, rfl, .inr hge, k1, lo_or (by omega) (by rw [show 71 + y = 70 + (y + 1) by omega, obj70 (by omega)]; exact k2), fun M id h => LRel.tup (LRel.cons (.osl h zN) (LRel.cons (.bool true) (LRel.nil M)))⟩
  · rw [hz] at hz'; cases hz'
theorem z_yn {y : Nat} (hy : y < 6) (hm : Y.m = Y.n) (hN : 1 ≤ Y.n ∧ Y.n ≤ 4) (v0 : ∀ i, i < Y.n → 1 ≤ Y.sc (4 * i + 0)) (hz : fullZ Y.sc Y.n (Y.dr y) = true) : EntZ Y (eYn y) := fun args' w h => by
  obtain ⟨a, b, c, rfl, h1, h2, h3⟩ := pts3 h
  obtain ⟨gs, os, cap, rfl, hw⟩ := sysOr _ _ h1
  obtain ⟨gb, ob, cb, rfl, hwb⟩ := agR_pat (by omega) hm _ _ h2
  obtain rfl := pt_num h3 (zD (by omega))
  refine Calls.mono (ye_key hN v0 hw hwb) ?_
  rintro e w' ⟨hb, ⟨hz', _⟩ | ⟨_, rfl⟩⟩
  · rw [hz] at hz'; cases hz'
  · exact ⟨hb, _, rfl, fun M => LRel.tup (LRel.cons (.nils 0 0) (LRel.cons (.bool false) (LRel.nil M)))⟩
theorem z_num {f : Nat} {pats : List Pt} {t : Value} {x : Int} (ht : Dv (DZ Y) t x) (h : ∀ args' w, PtsR (pgY Y [] nilZ) w pats args'.toList → Calls Tryz.prog f args' w fun e w' => Below w.heap.size w w' ∧ e = .returned (iP x)) : EntZ Y ⟨f, pats, .v t⟩ := fun args' w k => by
  refine Calls.mono (h args' w k) ?_
  rintro e w' ⟨hb, rfl⟩
  exact ⟨hb, _, rfl, fun M => Dv.vrel (P := pgY Y [] nilZ) ht⟩
theorem z_sh {y : Nat} (hy : y < 6) (hN : 1 ≤ Y.n ∧ Y.n ≤ 4) (ho : Y.ot (160 + (20 + y)) = shZ Y.sc (agV Y (y + 1)) Y.n) : EntZ Y (eSh y) :=
  z_num (x := shZ Y.sc (agV Y (y + 1)) Y.n) (by rw [← ho]; exact zO (20 + y)) fun args' w h => by
    obtain ⟨a, b, rfl, h1, h2⟩ := pts2 h
    obtain ⟨gs, os, cap, rfl, hw⟩ := sysOr _ _ h1
    rw [show 71 + y = 70 + (y + 1) by omega] at h2
    obtain ⟨gb, ob, cb, rfl, hwb⟩ := lstAg (by omega) zN _ _ h2
    exact sh_key hN hw hwb
theorem z_fu {p : Pt} {y : Nat} (hs : SysPat Y p) (hy : y < 40) (hN : 1 ≤ Y.n ∧ Y.n ≤ 4) (ho : Y.ot (160 + (10 + y)) = if fullZ Y.sc Y.n (Y.dr y) = true then 16 else 0) : EntZ Y (eFu p y) :=
  z_num (x := if fullZ Y.sc Y.n (Y.dr y) = true then 16 else 0) (by rw [← ho]; exact zO (10 + y)) fun args' w h => by
    obtain ⟨a, b, rfl, h1, h2⟩ := pts2 h
    obtain ⟨gs, os, cap, rfl, hw⟩ := hs _ _ h1
    obtain rfl := pt_num h2 (zD (by omega))
    exact fu_key hN hw
theorem ptE_inv {w : World} {v : Value} (h : PR Y w sE v) : v = .agg #[.slice none 0 0, .int .i64 0] := flat_eq (v := .agg #[.slice none 0 0, iP 0]) rfl (h fun _ => none)
theorem z_fuE {y : Nat} (hy : y < 40) (ho : Y.ot (160 + (10 + y)) = 0) : EntZ Y (eFu sE y) :=
  z_num (x := 0) (by rw [← ho]; exact zO (10 + y)) fun args' w h => by
    obtain ⟨a, b, rfl, h1, h2⟩ := pts2 h
    obtain rfl := ptE_inv h1
    obtain rfl := pt_num h2 (zD (by omega))
    exact fu0_key
theorem z_nu {d : Pt} (hd : LstPat Y 1 Y.dr Y.k d) (hk : Y.k ≤ 100000) (ho : Y.ot (160 + 3) = nusE Y.dr 0 20000 Y.k) : EntZ Y (eNu d) :=
  z_num (x := nusE Y.dr 0 20000 Y.k) (by rw [← ho]; exact zO 3) fun args' w h => by
    obtain ⟨a, b, c, rfl, h1, h2, h3⟩ := pts3 h
    obtain ⟨gd, od, cap, rfl, hw⟩ := hd _ _ h1
    obtain rfl := pt_num h2 (.lit 0)
    obtain rfl := pt_num h3 (.lit 20000)
    rw [Nat.one_mul] at hw
    exact Calls.mono (numbers_any _ gd od Y.k cap Y.dr 0 20000 w hk (fun _ => rfl) (fun _ => hw)) fun e w' h => ⟨h.2, h.1⟩
theorem z_ag {p : Pt} {e : Int} (hs : SysPat Y p) (ha : AgAns Y.nw Y.sc Y.bg Y.n Y.m e) (ho : Y.ot (160 + 2) = e) : EntZ Y (eAg p) :=
  z_num (x := e) (by rw [← ho]; exact zO 2) fun args' w h => by
    obtain ⟨a, b, rfl, h1, h2⟩ := pts2 h
    obtain ⟨gs, os, cap, rfl, hw⟩ := hs _ _ h1
    obtain ⟨gb, ob, cb, rfl, hwb⟩ := lstBA _ _ h2
    exact Calls.mono (ha hw (fun _ => rfl) (fun _ => hwb)).1 fun e w' h => ⟨h.2, h.1⟩
theorem z_sys {p : Pt} {k e : Int} (hs : SysPat Y p) (ha : SysAns Y.nw Y.sc Y.n k e) (h0 : Y.ot (160 + 0) = k) (h1 : Y.ot (160 + 1) = e) : EntZ Y ⟨62, [p], .v (.tuple #[hCk, hE])⟩ := fun args' w h => by
  obtain ⟨a, rfl, h2⟩ := pts1 h
  obtain ⟨gs, os, cap, rfl, hw⟩ := hs _ _ h2
  refine Calls.mono (ha (fun _ => rfl) (fun _ => hw)).1 ?_
  rintro r w' ⟨rfl, hb⟩
  exact ⟨hb, _, rfl, fun M => LRel.tup (LRel.cons (Dv.vrel (P := pgY Y [] nilZ) (by rw [← h0]; exact zO 0)) (LRel.cons (Dv.vrel (P := pgY Y [] nilZ) (by rw [← h1]; exact zO 1)) (LRel.nil M)))⟩
/-- a copy of ages -/
theorem lst_new {f c n : Nat} {g : Nat → Int} {p : Pt} {t : Value} {o : AObj} (hp : LstPat Y c g n p) (ht : Dv (DZ Y) t n) (ho : ∀ ob, atC ob 0 (c * n) g → ∀ M, ORel (pgY Y [] nilZ) M 0 o ob)
    (key : ∀ {gs os cap : Nat} {w : World}, WinP gs os (c * n) g w → Calls Tryz.prog f #[.slice (some ⟨gs, os, none⟩) n cap] w fun e w' => Below w.heap.size w w' ∧ ∃ v, e = .returned v ∧ NewL c n g w w' v) : EntZ Y ⟨f, [p], .n o (osl t)⟩ := fun args' w h => by
  obtain ⟨a, rfl, h1⟩ := pts1 h
  obtain ⟨gs, os, cap, rfl, hw⟩ := hp _ _ h1
  refine Calls.mono (key hw) ?_
  rintro e w' ⟨hb, v, rfl, b', c', rfl, hge, hwin⟩
  obtain ⟨obj, k1, k2⟩ := winP_at.1 hwin
  exact ⟨hb, lst_res2 ht hge k1 (ho obj k2)⟩
theorem z_cb (hm : 1 ≤ Y.m ∧ Y.m ≤ 6) : EntZ Y (eCb bO) :=
  lst_new lstBO zM (fun ob h => lo_or (by decide) h) fun hw => cb_key (by omega) hw
theorem z_cd (hk : (1 ≤ Y.k ∧ Y.k ≤ 6) ∨ Y.k = 31 ∨ Y.k = 32) : EntZ Y ⟨10, [dOr], .n (.opq 55 []) (osl hLd)⟩ :=
  lst_new lstDO zK (fun ob h => lo_or (by decide) (by rw [Nat.one_mul] at h; exact h)) fun hw => cd_key (by omega) hw
theorem cl_key {bg : Nat → Int} {N gb ob cb : Nat} {w : World} (hN : 1 ≤ N ∧ N ≤ 4) (hw : WinP gb ob (2 * N) bg w) : Calls Tryz.prog 31 #[.slice (some ⟨gb, ob, none⟩) N cb] w fun e w' => Below w.heap.size w w' ∧ ∃ v, e = .returned v ∧ NewL 2 N bg w w' v := by
  have hr : ∀ ok, fst2 4 (evDS (pgS (holeS 0 (fun _ => 0) bg (ot1 0)) [] ok) spNone 2000 60 (.fn 31) (ptVals 0 [pB N]) (memT (ptObjs [pB N])) 3) = some (.slice (some ⟨4, 0, none⟩) N OPEN, some (.row (rowB N) 74 true)) := fun ok => by
    obtain rfl | rfl | rfl | rfl : N = 1 ∨ N = 2 ∨ N = 3 ∨ N = 4 := by omega
    · exact clR1 _ ok
    · exact clR2 _ ok
    · exact clR3 _ ok
    · exact clR4 _ ok
  refine Calls.mono (run_row (P := pgS (holeS 0 (fun _ => 0) bg (ot1 0)) [] nil_ok) (pats := [pB N]) (by kernel_rfl) ok_spNone (by show 1 ≤ 3; decide) (by show (numO (.win (rowB N)) && true) = true; rw [numOw numB]; rfl) (by kernel_rfl) numB (fun _ => trivial) (hr nil_ok) (args' := #[.slice (some ⟨gb, ob, none⟩) N cb]) ⟨patB_ok hN.2 hw, trivial⟩) ?_
  rintro e w' ⟨hb, v', b, ob', rfl, hge, hw', ho, hvr⟩
  obtain ⟨c2, rfl⟩ := osl_lit (hvr (fun _ => some (b, 0)) 0 rfl)
  exact ⟨hb, _, rfl, b, c2, rfl, hge, winP_at.2 ⟨ob', hw', by have := win_at ho (rowB_dv (nw := 0) (sc := fun _ => 0) (bg := bg) (ot := ot1 0) hN.2); simpa [rowB] using this⟩⟩
theorem z_cl (hm : 1 ≤ Y.m ∧ Y.m ≤ 4) : EntZ Y eCl :=
  lst_new lstBA zM (fun ob h => lo_or (by decide) h) fun hw => cl_key hm hw
end
end Sy
end Go.Proofs.YtdejmleboflopaaGreat
