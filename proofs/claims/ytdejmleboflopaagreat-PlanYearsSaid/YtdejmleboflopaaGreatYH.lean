/- The law PlanYears of any input. -/
import Derived.Test.YtdejmleboflopaaGreatYG
import Derived.Test.YtdejmleboflopaaGreatPW
set_option linter.unusedVariables false
set_option linter.unusedSimpArgs false
namespace Go.Proofs.YtdejmleboflopaaGreat
open Go.RowKit
namespace Sy
open Go.RowKit

structure Ot where
  ck : Int
  e : Int
  a : Int
  nu : Int
  ye : Int
  gn : Int
  de : Int
  ce : Int
  fu : Nat → Int
  sh : Nat → Int
  f0 : Int
  f1 : Int
  f2 : Int
def otY (o : Ot) (i : Nat) : Int :=
  if i = 160 then o.ck else if i = 161 then o.e else if i = 162 then o.a else if i = 163 then o.nu else if i = 164 then o.ye else if i = 165 then o.gn else if i = 168 then o.de else if i = 169 then o.ce
  else if i < 180 then o.fu (i - 170) else if i < 190 then o.sh (i - 180) else if i = 190 then o.f0 else if i = 191 then o.f1 else o.f2
theorem otY_fu (o : Ot) {y : Nat} (h : y < 10) : otY o (160 + (10 + y)) = o.fu y := by
  unfold otY
  rw [if_neg (by omega), if_neg (by omega), if_neg (by omega), if_neg (by omega), if_neg (by omega), if_neg (by omega), if_neg (by omega), if_neg (by omega), if_pos (by omega), show 160 + (10 + y) - 170 = y by omega]
theorem otY_sh (o : Ot) {y : Nat} (h : y < 10) : otY o (160 + (20 + y)) = o.sh y := by
  unfold otY
  rw [if_neg (by omega), if_neg (by omega), if_neg (by omega), if_neg (by omega), if_neg (by omega), if_neg (by omega), if_neg (by omega), if_neg (by omega), if_neg (by omega), if_pos (by omega), show 160 + (20 + y) - 180 = y by omega]
def Yo (B : Yr) (o : Ot) : Yr := { B with ot := otY o }
structure Inp (B : Yr) (sa sb sd : Option Addr) (gs gb gd cp cb cd : Nat) (w : World) : Prop where
  va : B.va = .slice sa B.n cp
  vb : B.vb = .slice sb B.m cb
  vd : B.vd = .slice sd B.k cd
  hs : 0 < B.n → sa = some ⟨gs, B.os, none⟩
  hb : 0 < B.m → sb = some ⟨gb, B.ob, none⟩
  hd : 0 < B.k → sd = some ⟨gd, B.od, none⟩
  ws : 0 < B.n → WinP gs B.os (4 * B.n) B.sc w
  wb : 0 < B.m → WinP gb B.ob (2 * B.m) B.bg w
  wd : 0 < B.k → WinP gd B.od B.k B.dr w
abbrev LawY (B : Yr) (w : World) : Prop := Calls Tryz.prog 3 #[.agg #[B.va, .int .i64 B.nw], B.vb, B.vd] w fun e w' => e = .returned (.bool true) ∧ Below w.heap.size w w'
theorem forms_len {s b d : Pt} (hs : s = sO ∨ s = sN) (hb : b = bO ∨ b = bN) (hd : d = dOr ∨ d = dN) : (ptObjs [s, b, d]).length ≤ 3 := by
  rcases hs with rfl | rfl <;> rcases hb with rfl | rfl <;> rcases hd with rfl | rfl <;> decide
theorem forms_num {s b d : Pt} (hs : s = sO ∨ s = sN) (hb : b = bO ∨ b = bN) (hd : d = dOr ∨ d = dN) : (ptObjs [s, b, d]).all numO = true := by
  rcases hs with rfl | rfl <;> rcases hb with rfl | rfl <;> rcases hd with rfl | rfl <;> rfl
theorem fin {B : Yr} {o : Ot} {w : World} {l : List Fact} (hl : ∀ f ∈ l, OkF (DZ (Yo B o)) f) {L : List Ent} (hL : ∀ e ∈ L, EntZ (Yo B o) e ∧ nwE e) {s b d : Pt} (hrun : RunL (Yo B o) l L [s, b, d]) (hlen : (ptObjs [s, b, d]).length ≤ 3) (hnum : (ptObjs [s, b, d]).all numO = true)
    (h1 : PR (Yo B o) w s (.agg #[B.va, .int .i64 B.nw])) (h2 : PR (Yo B o) w b B.vb) (h3 : PR (Yo B o) w d B.vd) : LawY B w := by
  have hsp : CallOk (pgL (Yo B o) l hl) (spW_ L) := ok_spOr (ok_spE rfl) (ok_spOr (ok_spEnts (fun e he => EntOk.congr (P := pgY (Yo B o) [] nilZ) (P' := pgL (Yo B o) l hl) rfl rfl (hL e he).1) (fun e he => (hL e he).2)) (ok_spCk rfl rfl))
  refine Calls.mono (run_ent (P := pgL (Yo B o) l hl) (pats := [s, b, d]) (by kernel_rfl) hsp hlen hnum (by kernel_rfl) (hrun hl) #[.agg #[B.va, .int .i64 B.nw], B.vb, B.vd] w ⟨PtR.congr (P := pgY (Yo B o) [] nilZ) (P' := pgL (Yo B o) l hl) rfl rfl h1, PtR.congr (P := pgY (Yo B o) [] nilZ) (P' := pgL (Yo B o) l hl) rfl rfl h2, PtR.congr (P := pgY (Yo B o) [] nilZ) (P' := pgL (Yo B o) l hl) rfl rfl h3, trivial⟩) ?_
  rintro e w' ⟨hb, v', rfl, hv⟩
  have h := hv fun _ => none
  cases h
  exact ⟨rfl, hb⟩

/-! What the arguments are. -/
theorem hsl_inv {P : Pg} {M : Mp} {k : Nat} {t v' : Value} (h : VRel P M (.iface 94 (.tuple #[.int .i64 (.ofNat k), t])) v') : ∃ a n c, v' = .slice a n c ∧ P.den.hole k = .slice a n c ∧ Dv P.den t (n : Nat) := by
  cases h with
  | sym h ht => omega
  | hsl h hn => exact ⟨_, _, _, rfl, h, hn⟩
section
variable {B : Yr} {sa sb sd : Option Addr} {gs gb gd cp cb cd : Nat} {w : World}
theorem prSN (I : Inp B sa sb sd gs gb gd cp cb cd w) (o : Ot) (w' : World) : PR (Yo B o) w' sN (.agg #[B.va, .int .i64 B.nw]) := fun M => by
  rw [I.va]
  exact LRel.agg (LRel.cons (.hsl (k := 40) I.va zN) (LRel.cons (Dv.vrel (P := pgY (Yo B o) [] nilZ) zNew) (LRel.nil M)))
theorem prBN (I : Inp B sa sb sd gs gb gd cp cb cd w) (o : Ot) (w' : World) : PR (Yo B o) w' bN B.vb := fun M => by
  rw [I.vb]
  exact .hsl (k := 42) I.vb zM
theorem prDN (I : Inp B sa sb sd gs gb gd cp cb cd w) (o : Ot) (w' : World) : PR (Yo B o) w' dN B.vd := fun M => by
  rw [I.vd]
  exact .hsl (k := 44) I.vd zK
theorem sN_inv (I : Inp B sa sb sd gs gb gd cp cb cd w) {o : Ot} {w' : World} {v : Value} (h : PR (Yo B o) w' sN v) : v = .agg #[.slice sa B.n cp, .int .i64 B.nw] := by
  obtain ⟨x, y, rfl, h1, h2⟩ := agg2_inv (h fun _ => none)
  obtain ⟨a, n, c, rfl, h3, _⟩ := hsl_inv (k := 40) h1
  have h3 : B.va = .slice a n c := h3
  rw [I.va] at h3
  rw [← h3]
  obtain ⟨z, rfl, dz⟩ := vrel_num h2 rfl
  have e : B.nw = z := (zNew (Y := Yo B o)).unique _ dz
  rw [e]
theorem bN_inv (I : Inp B sa sb sd gs gb gd cp cb cd w) {o : Ot} {w' : World} {v : Value} (h : PR (Yo B o) w' bN v) : v = .slice sb B.m cb := by
  obtain ⟨a, n, c, rfl, h3, _⟩ := hsl_inv (k := 42) (h fun _ => none)
  have h3 : B.vb = .slice a n c := h3
  rw [I.vb] at h3
  rw [← h3]
theorem dN_inv (I : Inp B sa sb sd gs gb gd cp cb cd w) {o : Ot} {w' : World} {v : Value} (h : PR (Yo B o) w' dN v) : v = .slice sd B.k cd := by
  obtain ⟨a, n, c, rfl, h3, _⟩ := hsl_inv (k := 44) (h fun _ => none)
  have h3 : B.vd = .slice a n c := h3
  rw [I.vd] at h3
  rw [← h3]
theorem atC0 {ob : Obj} (h : ∀ g, atC ob 0 0 g) {n : Nat} (hn : n = 0) (g : Nat → Int) : atC ob 0 n g := by subst hn; exact h g
theorem formS (I : Inp B sa sb sd gs gb gd cp cb cd w) (h6 : B.n ≤ 6) : ∃ s, (s = sO ∨ s = sN) ∧ (0 < B.n → s = sO) ∧ ∀ o, PR (Yo B o) w s (.agg #[B.va, .int .i64 B.nw]) ∧ EntZ (Yo B o) (eCS s) ∧ ∀ {ck E : Int}, SysAns B.nw B.sc B.n ck E → ∀ t, Dv (DZ (Yo B o)) t E → EntZ (Yo B o) (eSE s t) := by
  by_cases h0 : 0 < B.n
  · refine ⟨sO, .inl rfl, fun _ => rfl, fun o => ⟨?_, ?_, ?_⟩⟩
    · rw [I.va, I.hs h0]
      obtain ⟨ob, h1, h2⟩ := winP_at.1 (I.ws h0)
      exact pt_sys (P := pgY (Yo B o) [] nilZ) zN zNew h1 ((opq_hi (P := pgY (Yo B o) [] nilZ) (by decide)).2 ⟨rfl, h2⟩)
    · intro args' w' h
      obtain ⟨a, rfl, k1⟩ := pts1 h
      obtain ⟨g, o', cap, rfl, hw⟩ := sysOr _ _ k1
      have hn : (Yo B o).n = B.n := rfl
      refine Calls.mono (cs_key (by omega) hw) ?_
      rintro e w2 ⟨hb, v, rfl, b', c', rfl, hge, hwin⟩
      obtain ⟨obj, j1, j2⟩ := winP_at.1 hwin
      exact ⟨hb, _, b', obj, rfl, .inr hge, j1, lo_or (by decide) j2, fun M id h => LRel.agg (LRel.cons (.osl h zN) (LRel.cons (Dv.vrel (P := pgY (Yo B o) [] nilZ) zNew) (LRel.nil M)))⟩
    · intro ck E hans t ht
      exact z_num ht fun args' w' h => by
        obtain ⟨a, rfl, k1⟩ := pts1 h
        obtain ⟨g, o', cap, rfl, hw⟩ := sysOr _ _ k1
        exact Calls.mono (hans (fun _ => rfl) (fun _ => hw)).2 fun e w2 h => ⟨h.2, h.1⟩
  · have hn : B.n = 0 := by omega
    refine ⟨sN, .inr rfl, fun h => absurd h h0, fun o => ⟨prSN I o w, ?_, ?_⟩⟩
    · intro args' w' h
      obtain ⟨a, rfl, k1⟩ := pts1 h
      have := sN_inv I k1
      subst this
      rw [hn]
      refine Calls.mono (copy0S B.nw sa cp w') ?_
      rintro e w2 ⟨hb, b', obj, rfl, hge, j1, j2⟩
      have hn' : (Yo B o).n = 0 := hn
      exact ⟨hb, _, b', obj, rfl, .inr hge, j1, lo_or (by decide) (by rw [obj53]; exact atC0 j2 (by omega) _), fun M id h => LRel.agg (LRel.cons (.osl h (by have := zN (Y := Yo B o); rwa [hn'] at this)) (LRel.cons (Dv.vrel (P := pgY (Yo B o) [] nilZ) zNew) (LRel.nil M)))⟩
    · intro ck E hans t ht
      exact z_num ht fun args' w' h => by
        obtain ⟨a, rfl, k1⟩ := pts1 h
        have := sN_inv I k1
        subst this
        exact Calls.mono (hans (gs := 0) (os := 0) (fun h => absurd h h0) (fun h => absurd h h0)).2 fun e w2 h => ⟨h.2, h.1⟩
theorem formB (I : Inp B sa sb sd gs gb gd cp cb cd w) (h6 : B.m ≤ 6) : ∃ b, (b = bO ∨ b = bN) ∧ (0 < B.m → b = bO) ∧ ∀ o, PR (Yo B o) w b B.vb ∧ EntZ (Yo B o) (eCb b) ∧ ∀ {A : Int}, AgAns B.nw B.sc B.bg B.n B.m A → ∀ t, Dv (DZ (Yo B o)) t A → EntZ (Yo B o) (eAE sO b t) := by
  by_cases h0 : 0 < B.m
  · refine ⟨bO, .inl rfl, fun _ => rfl, fun o => ⟨?_, z_cb (by have : (Yo B o).m = B.m := rfl; omega), ?_⟩⟩
    · rw [I.vb, I.hb h0]
      obtain ⟨ob, h1, h2⟩ := winP_at.1 (I.wb h0)
      exact pt_lst (P := pgY (Yo B o) [] nilZ) zM h1 ((opq_hi (P := pgY (Yo B o) [] nilZ) (by decide)).2 ⟨rfl, h2⟩)
    · intro A hans t ht
      exact z_num ht fun args' w' h => by
        obtain ⟨a, b, rfl, k1, k2⟩ := pts2 h
        obtain ⟨g, o', cap, rfl, hw⟩ := sysOr _ _ k1
        obtain ⟨g2, o2, cap2, rfl, hw2⟩ := lstBO _ _ k2
        exact Calls.mono (hans hw (fun _ => rfl) (fun _ => hw2)).2 fun e w2 h => ⟨h.2, h.1⟩
  · have hm : B.m = 0 := by omega
    refine ⟨bN, .inr rfl, fun h => absurd h h0, fun o => ⟨prBN I o w, ?_, ?_⟩⟩
    · intro args' w' h
      obtain ⟨a, rfl, k1⟩ := pts1 h
      have := bN_inv I k1
      subst this
      rw [hm]
      refine Calls.mono (copy0B sb cb w') ?_
      rintro e w2 ⟨hb, b', obj, rfl, hge, j1, j2⟩
      have hm' : (Yo B o).m = 0 := hm
      exact ⟨hb, lst_res2 (by have := zM (Y := Yo B o); rwa [hm'] at this) hge j1 (lo_or (by decide) (by rw [obj54]; exact atC0 j2 (by omega) _))⟩
    · intro A hans t ht
      exact z_num ht fun args' w' h => by
        obtain ⟨a, b, rfl, k1, k2⟩ := pts2 h
        obtain ⟨g, o', cap, rfl, hw⟩ := sysOr _ _ k1
        have := bN_inv I k2
        subst this
        exact Calls.mono (hans (gb := 0) (ob := 0) hw (fun h => absurd h h0) (fun h => absurd h h0)).2 fun e w2 h => ⟨h.2, h.1⟩
def deV (dr : Nat → Int) (k : Nat) : Int := if k ≤ 30 then nusE dr 0 20000 k else 8
theorem formD (I : Inp B sa sb sd gs gb gd cp cb cd w) (hk : B.k ≤ 6 ∨ B.k = 31 ∨ B.k = 32) : ∃ d, (d = dOr ∨ d = dN) ∧ (0 < B.k → d = dOr) ∧ (d = dN → B.k = 0) ∧ ∀ o, PR (Yo B o) w d B.vd ∧ EntZ (Yo B o) (eCD d) ∧ ∀ t, Dv (DZ (Yo B o)) t (deV B.dr B.k) → EntZ (Yo B o) (eDE d t) := by
  by_cases h0 : 0 < B.k
  · refine ⟨dOr, .inl rfl, fun _ => rfl, fun h => by simp [dOr, dN] at h, fun o => ⟨?_, z_cd (by have : (Yo B o).k = B.k := rfl; omega), ?_⟩⟩
    · rw [I.vd, I.hd h0]
      obtain ⟨ob, h1, h2⟩ := winP_at.1 (I.wd h0)
      exact pt_lst (P := pgY (Yo B o) [] nilZ) zK h1 ((opq_hi (P := pgY (Yo B o) [] nilZ) (by decide)).2 ⟨rfl, h2⟩)
    · intro t ht
      exact z_num ht fun args' w' h => by
        obtain ⟨a, rfl, k1⟩ := pts1 h
        obtain ⟨g, o', cap, rfl, hw⟩ := lstDO _ _ k1
        rw [Nat.one_mul] at hw
        unfold deV
        by_cases h30 : B.k ≤ 30
        · rw [if_pos h30]
          exact Calls.mono (draws_any B.dr (K := B.k) (by omega) (fun _ => rfl) (fun _ => hw)) fun e w2 h => ⟨h.2, h.1⟩
        · rw [if_neg h30]
          exact Calls.mono (draws_many (n := B.k) (by omega)) fun e w2 h => ⟨h.2, h.1⟩
  · have hk0 : B.k = 0 := by omega
    refine ⟨dN, .inr rfl, fun h => absurd h h0, fun _ => hk0, fun o => ⟨prDN I o w, ?_, ?_⟩⟩
    · intro args' w' h
      obtain ⟨a, rfl, k1⟩ := pts1 h
      have := dN_inv I k1
      subst this
      rw [hk0]
      refine Calls.mono (copy0D sd cd w') ?_
      rintro e w2 ⟨hb, b', obj, rfl, hge, j1, j2⟩
      have hk' : (Yo B o).k = 0 := hk0
      exact ⟨hb, lst_res2 (by have := zK (Y := Yo B o); rwa [hk'] at this) hge j1 (lo_or (by decide) (by rw [obj55]; exact atC0 j2 hk' _))⟩
    · intro t ht
      exact z_num ht fun args' w' h => by
        obtain ⟨a, rfl, k1⟩ := pts1 h
        have := dN_inv I k1
        subst this
        unfold deV
        rw [if_pos (by omega)]
        exact Calls.mono (draws_any B.dr (K := B.k) (gx := 0) (ox := 0) (by omega) (fun h => absurd h h0) (fun h => absurd h h0)) fun e w2 h => ⟨h.2, h.1⟩
end
end Sy
end Go.Proofs.YtdejmleboflopaaGreat
