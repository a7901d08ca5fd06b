/- A year's calls: contracts on windows. -/
import Derived.Test.YtdejmleboflopaaGreatYB
import Derived.Test.YtdejmleboflopaaGreatYC0
set_option linter.unusedVariables false
set_option linter.unusedSimpArgs false
namespace Go.Proofs.YtdejmleboflopaaGreat
open Go.RowKit
namespace Sy
open Go.RowKit

theorem len2 {α : Type} (a b : Nat → α) : ∀ n, ((List.range n).flatMap fun i => [a i, b i]).length = 2 * n
  | 0 => rfl
  | n + 1 => by rw [List.range_succ, List.flatMap_append, List.length_append, len2 a b n]; simp; omega
theorem flat2g {α : Type} (a b : Nat → α) : ∀ n k, ((List.range n).flatMap fun i => [a i, b i])[k]? = if k < 2 * n then some (if k % 2 = 0 then a (k / 2) else b (k / 2)) else none
  | 0, k => by simp
  | n + 1, k => by
    rw [List.range_succ, List.flatMap_append, List.getElem?_append, len2, flat2g a b n]
    by_cases h1 : k < 2 * n
    · rw [if_pos h1, if_pos h1, if_pos (show k < 2 * (n + 1) by omega)]
    · rw [if_neg h1]
      simp only [List.flatMap_cons, List.flatMap_nil, List.append_nil]
      by_cases h2 : k = 2 * n
      · subst h2
        rw [if_pos (show 2 * n < 2 * (n + 1) by omega), if_pos (show 2 * n % 2 = 0 by omega), Nat.sub_self, show 2 * n / 2 = n by omega]; rfl
      · by_cases h3 : k = 2 * n + 1
        · subst h3
          rw [if_pos (show 2 * n + 1 < 2 * (n + 1) by omega), if_neg (show ¬ (2 * n + 1) % 2 = 0 by omega), show 2 * n + 1 - 2 * n = 1 by omega, show (2 * n + 1) / 2 = n by omega]; rfl
        · rw [if_neg (show ¬ k < 2 * (n + 1) by omega), List.getElem?_eq_none (by simp; omega)]
theorem all_dv {D : Dn} {l : List Value} {g : Nat → Int} (h : ∀ (i : Nat) (v : Value), l[i]? = some v → Dv D v (g i)) : l.all isNum = true :=
  List.all_eq_true.2 fun v hv => by
    obtain ⟨i, hi⟩ := List.getElem?_of_mem hv
    exact (h i v hi).num
theorem map_dv {D : Dn} {f : Nat → Value} {g : Nat → Int} {n : Nat} (h : ∀ i, i < n → Dv D (f i) (g i)) (i : Nat) (v : Value) (hv : ((List.range n).map f)[i]? = some v) : Dv D v (g i) := by
  rw [List.getElem?_map] at hv
  by_cases hi : i < n
  · rw [List.getElem?_range hi] at hv
    cases hv
    exact h i hi
  · rw [List.getElem?_eq_none (by simp; omega)] at hv; cases hv
def ot1 (d : Int) (k : Nat) : Int := if k = 30 then d else 0
theorem dD1 {nw : Int} {sc bg : Nat → Int} {d : Int} : Dv (DSy nw sc bg (ot1 d)) hDr d := dOt (by decide)
theorem row_fl {nw : Int} {sc bg : Nat → Int} {d : Int} {N : Nat} (h4 : N ≤ 4) (i : Nat) (v : Value) (hv : (flRow hDr N)[i]? = some v) : Dv (DSy nw sc bg (ot1 d)) v (flowV sc d i) := by
  rw [flRow, flat2g] at hv
  split at hv
  · cases hv
    unfold flowV
    by_cases h : i % 2 = 0
    · rw [if_pos h, h]; exact dFl dD1 (by decide) _ (by omega)
    · rw [if_neg h, show i % 2 = 1 by omega]; exact dFl dD1 (by decide) _ (by omega)
  · cases hv
theorem row_ag {nw : Int} {sc bg : Nat → Int} {d : Int} {N : Nat} (h4 : N ≤ 4) (i : Nat) (v : Value) (hv : (agRow N hDr)[i]? = some v) : Dv (DSy nw sc bg (ot1 d)) v (nextV nw sc N d bg i) := by
  rw [agRow, flat2g] at hv
  split at hv
  · cases hv
    unfold nextV
    by_cases h : i % 2 = 0
    · rw [if_pos h, if_pos h]; exact dAg h4 dD1 (by omega)
    · rw [if_neg h, if_neg h]; exact dAh h4 dD1 (by omega)
  · cases hv
theorem vols_ok {nw : Int} {sc bg ot : Nat → Int} {N : Nat} (h4 : N ≤ 4) (v0 : ∀ i, i < N → 1 ≤ sc (4 * i + 0)) : ∀ d ∈ volsP N, ∃ z, Dv (DSy nw sc bg ot) d z ∧ 0 < z := fun d hd => by
  obtain ⟨i, hi, rfl⟩ := List.mem_map.1 hd
  have hi := List.mem_range.1 hi
  exact ⟨sc (4 * i + 0), dSc (by omega) (by decide), by have := v0 i hi; omega⟩
theorem ok_spP2 {nw : Int} {sc bg ot : Nat → Int} {N : Nat} (h4 : N ≤ 4) (v0 : ∀ i, i < N → 1 ≤ sc (4 * i + 0)) {l ok} : CallOk (pgS (holeS nw sc bg ot) l ok) (spP N) :=
  ok_spOr (ok_spDivs (g := flZ) rfl (by decide) (fun _ _ => rfl) (vols_ok h4 v0) (fun n d w hd => still_callP (flZ_any n d w hd))) (ok_spDivs (g := ceZ) rfl (by decide) (fun _ _ => rfl) (vols_ok h4 v0) (fun n d w hd => still_callP (ceZ_any n d w hd)))
theorem ok_spR2 {nw : Int} {sc bg ot : Nat → Int} {N : Nat} (h4 : N ≤ 4) (v0 : ∀ i, i < N → 1 ≤ sc (4 * i + 0)) {l ok} : CallOk (pgS (holeS nw sc bg ot) l ok) (spR N) :=
  ok_spOr (ok_spP2 h4 v0) (ok_spOr (ok_spDivs (g := flZ) rfl (by decide) (fun _ _ => rfl) (vols_ok h4 v0) (fun n d w hd => still_callP (bflZ_any n d w hd))) (ok_spDivs (g := ceZ) rfl (by decide) (fun _ _ => rfl) (vols_ok h4 v0) (fun n d w hd => still_callP (bceZ_any n d w hd))))
theorem numOw {row : List Value} (h : row.all isNum = true) : numO (.win row) = true := h
theorem tup2_inv {P : Pg} {M : Mp} {a b v' : Value} (h : VRel P M (.tuple #[a, b]) v') : ∃ x y, v' = .tuple #[x, y] ∧ VRel P M a x ∧ VRel P M b y := by
  cases h with
  | @tup _ a' hsz hel =>
    obtain ⟨x, y, rfl⟩ := arr2 (lrel_arr.2 ⟨hsz, hel⟩ : LRel P M (#[a, b] : Array Value).toList a'.toList) rfl
    exact ⟨x, y, rfl, hel 0 a x rfl rfl, hel 1 b y rfl rfl⟩
theorem agg2_inv {P : Pg} {M : Mp} {a b v' : Value} (h : VRel P M (.agg #[a, b]) v') : ∃ x y, v' = .agg #[x, y] ∧ VRel P M a x ∧ VRel P M b y := by
  cases h with
  | @agg _ a' hsz hel =>
    obtain ⟨x, y, rfl⟩ := arr2 (lrel_arr.2 ⟨hsz, hel⟩ : LRel P M (#[a, b] : Array Value).toList a'.toList) rfl
    exact ⟨x, y, rfl, hel 0 a x rfl rfl, hel 1 b y rfl rfl⟩
theorem lit_inv {P : Pg} {M : Mp} {n : Int} {v' : Value} (h : VRel P M (iP n) v') : v' = .int .i64 n := flat_eq (v := iP n) rfl h
theorem osl_lit {P : Pg} {b n : Nat} {v' : Value} (h : VRel P (fun _ => some (b, 0)) (.iface 91 (.tuple #[.int .i64 (.ofNat 0), .int .i64 (.ofNat n)])) v') : ∃ c, v' = .slice (some ⟨b, 0, none⟩) n c := by
  obtain ⟨b2, r2, n2, c2, rfl, hM, hn⟩ := osl_rel h
  cases hM
  have := (Dv.lit (D := P.den) (n : Int)).unique _ hn
  have : n = n2 := by omega
  subst this
  exact ⟨c2, rfl⟩
abbrev NewL (c n : Nat) (g : Nat → Int) (w w' : World) (v : Value) : Prop := ∃ b cap, v = .slice (some ⟨b, 0, none⟩) n cap ∧ w.heap.size ≤ b ∧ WinP b 0 (c * n) g w'
section
variable {nw : Int} {sc bg : Nat → Int} {d : Int} {N : Nat}
theorem patS_ok {ot : Nat → Int} {l ok} {gs os cap : Nat} {w : World} (h4 : N ≤ 4) (hw : WinP gs os (4 * N) sc w) : PtR (pgS (holeS nw sc bg ot) l ok) w (pS N) (.agg #[.slice (some ⟨gs, os, none⟩) N cap, .int .i64 nw]) := by
  obtain ⟨ob, h1, h2⟩ := winP_at.1 hw
  exact pt_sys (P := pgS (holeS nw sc bg ot) l ok) (.lit (N : Int)) dNew h1 (at_win (P := pgS (holeS nw sc bg ot) l ok) (fun _ => trivial) (by simpa [rowS] using h2) (rowS_dv h4))
theorem patB_ok {ot : Nat → Int} {l ok} {gs os cap : Nat} {w : World} (h4 : N ≤ 4) (hw : WinP gs os (2 * N) bg w) : PtR (pgS (holeS nw sc bg ot) l ok) w (pB N) (.slice (some ⟨gs, os, none⟩) N cap) := by
  obtain ⟨ob, h1, h2⟩ := winP_at.1 hw
  exact pt_lst (P := pgS (holeS nw sc bg ot) l ok) (.lit (N : Int)) h1 (at_win (P := pgS (holeS nw sc bg ot) l ok) (fun _ => trivial) (by simpa [rowB] using h2) (rowB_dv h4))
theorem patF_ok {l ok} {gs os cap : Nat} {w : World} (h4 : N ≤ 4) (hw : WinP gs os (2 * N) (flowV sc d) w) : PtR (pgS (holeS nw sc bg (ot1 d)) l ok) w (pF N) (.slice (some ⟨gs, os, none⟩) N cap) := by
  obtain ⟨ob, h1, h2⟩ := winP_at.1 hw
  exact pt_lst (P := pgS (holeS nw sc bg (ot1 d)) l ok) (.lit (N : Int)) h1 (at_win (P := pgS (holeS nw sc bg (ot1 d)) l ok) (fun _ => trivial) (by rw [flRow, len2]; exact h2) (row_fl h4))
theorem numS : (rowS N).all isNum = true := List.all_eq_true.2 fun v hv => by obtain ⟨k, _, rfl⟩ := List.mem_map.1 hv; rfl
theorem numB : (rowB N).all isNum = true := List.all_eq_true.2 fun v hv => by obtain ⟨k, _, rfl⟩ := List.mem_map.1 hv; rfl
theorem numF (h4 : N ≤ 4) : (flRow hDr N).all isNum = true := all_dv (row_fl (nw := 0) (sc := fun _ => 0) (bg := fun _ => 0) (d := 0) h4)
theorem numG (h4 : N ≤ 4) : (agRow N hDr).all isNum = true := all_dv (row_ag (nw := 0) (sc := fun _ => 0) (bg := fun _ => 0) (d := 0) h4)
theorem nil_ok {D : Dn} : ∀ f ∈ ([] : List Fact), OkF D f := fun f h => by cases h
theorem fl_key {gs os cap : Nat} {w : World} (hN : 1 ≤ N ∧ N ≤ 4) (hw : WinP gs os (4 * N) sc w) :
    Calls Tryz.prog 37 #[.agg #[.slice (some ⟨gs, os, none⟩) N cap, .int .i64 nw], .int .i64 d] w fun e w' => Below w.heap.size w w' ∧ ∃ v, e = .returned v ∧ NewL 2 N (flowV sc d) w w' v := by
  have hr : ∀ ok, fst2 4 (evDS (pgS (holeS nw sc (fun _ => 0) (ot1 d)) [] ok) spNone 2000 60 (.fn 37) (ptVals 0 (patFl N)) (memT (ptObjs (patFl N))) 3) = some (.slice (some ⟨4, 0, none⟩) N N, some (.row (flRow hDr N) 74 false)) := fun ok => by
    obtain rfl | rfl | rfl | rfl : N = 1 ∨ N = 2 ∨ N = 3 ∨ N = 4 := by omega
    · exact flR1 _ ok
    · exact flR2 _ ok
    · exact flR3 _ ok
    · exact flR4 _ ok
  refine Calls.mono (run_row (P := pgS (holeS nw sc (fun _ => 0) (ot1 d)) [] nil_ok) (by kernel_rfl) ok_spNone (by show 1 ≤ 3; decide) (by show (numO (.win (rowS N)) && true) = true; rw [numOw numS]; rfl) (by kernel_rfl) (numF hN.2) (fun _ => trivial) (hr nil_ok) (args' := #[.agg #[.slice (some ⟨gs, os, none⟩) N cap, .int .i64 nw], .int .i64 d]) ⟨patS_ok hN.2 hw, pt_v dD1, trivial⟩) ?_
  rintro e w' ⟨hb, v', b, ob', rfl, hge, hw', ho, hvr⟩
  obtain ⟨c2, rfl⟩ := osl_lit (hvr (fun _ => some (b, 0)) 0 rfl)
  exact ⟨hb, _, rfl, b, c2, rfl, hge, winP_at.2 ⟨ob', hw', by have := win_at ho (row_fl (nw := nw) (bg := fun _ => 0) hN.2); rwa [flRow, len2] at this⟩⟩
theorem bh_key {gs os cap gb ob cb gf of cf : Nat} {w : World} (hN : 1 ≤ N ∧ N ≤ 4) (v0 : ∀ i, i < N → 1 ≤ sc (4 * i + 0)) (hw : WinP gs os (4 * N) sc w) (hwb : WinP gb ob (2 * N) bg w) (hwf : WinP gf of (2 * N) (flowV sc d) w) :
    Calls Tryz.prog 36 #[.agg #[.slice (some ⟨gs, os, none⟩) N cap, .int .i64 nw], .slice (some ⟨gb, ob, none⟩) N cb, .slice (some ⟨gf, of, none⟩) N cf] w fun e w' => Below w.heap.size w w' ∧ ∃ v, e = .returned v ∧ NewL 2 N (nextV nw sc N d bg) w w' v := by
  have hr : ∀ ok, fst2 4 (evDS (pgS (holeS nw sc bg (ot1 d)) [] ok) (spP N) 2000 60 (.fn 36) (ptVals 0 (patBh N)) (memT (ptObjs (patBh N))) 3) = some (.slice (some ⟨4, 0, none⟩) N N, some (.row (agRow N hDr) 74 false)) := fun ok => by
    obtain rfl | rfl | rfl | rfl : N = 1 ∨ N = 2 ∨ N = 3 ∨ N = 4 := by omega
    · exact bhR1 _ ok
    · exact bhR2 _ ok
    · exact bhR3 _ ok
    · exact bhR4 _ ok
  refine Calls.mono (run_row (P := pgS (holeS nw sc bg (ot1 d)) [] nil_ok) (by kernel_rfl) (ok_spP2 hN.2 v0) (by show 3 ≤ 3; decide) (by show (numO (.win (rowS N)) && (numO (.win (rowB N)) && (numO (.win (flRow hDr N)) && true))) = true; rw [numOw numS, numOw numB, numOw (numF hN.2)]; rfl) (by kernel_rfl) (numG hN.2) (fun _ => trivial) (hr nil_ok) (args' := #[.agg #[.slice (some ⟨gs, os, none⟩) N cap, .int .i64 nw], .slice (some ⟨gb, ob, none⟩) N cb, .slice (some ⟨gf, of, none⟩) N cf]) ⟨patS_ok hN.2 hw, patB_ok hN.2 hwb, patF_ok hN.2 hwf, trivial⟩) ?_
  rintro e w' ⟨hb, v', b, ob', rfl, hge, hw', ho, hvr⟩
  obtain ⟨c2, rfl⟩ := osl_lit (hvr (fun _ => some (b, 0)) 0 rfl)
  exact ⟨hb, _, rfl, b, c2, rfl, hge, winP_at.2 ⟨ob', hw', by have := win_at ho (row_ag (nw := nw) (bg := bg) hN.2); rwa [agRow, len2] at this⟩⟩
/-- is some flow too great? -/
def fullZ (sc : Nat → Int) (N : Nat) (d : Int) : Bool := (List.range N).any (fullB sc d)
theorem full_ways (sc : Nat → Int) (N : Nat) (d : Int) : (fullZ sc N d = false ∧ ∀ i, i < N → fullB sc d i = false) ∨ (fullZ sc N d = true ∧ ∃ i, i < N ∧ fullB sc d i = true ∧ ∀ j, j < i → fullB sc d j = false) := by
  rcases first_of (fullB sc d) N with h | ⟨i, h1, h2, h3⟩
  · exact .inl ⟨by rw [fullZ, List.any_eq_false]; intro i hi; rw [h i (List.mem_range.1 hi)]; decide, h⟩
  · exact .inr ⟨List.any_eq_true.2 ⟨i, List.mem_range.2 h1, h2⟩, i, h1, h2, h3⟩
theorem ok_noFull (h4 : N ≤ 4) (h : ∀ i, i < N → fullB sc d i = false) : ∀ f ∈ noFull N, OkF (DSy nw sc bg (ot1 d)) f := ok_map fun i hi => okFull dD1 (by omega) (h i hi)
theorem num_sb (h4 : N ≤ 4) : (numO (.win (rowS N)) && (numO (.win (rowB N)) && true)) = true := by rw [numOw numS, numOw numB]; rfl
theorem ye_key {gs os cap gb ob cb : Nat} {w : World} (hN : 1 ≤ N ∧ N ≤ 4) (v0 : ∀ i, i < N → 1 ≤ sc (4 * i + 0)) (hw : WinP gs os (4 * N) sc w) (hwb : WinP gb ob (2 * N) bg w) :
    Calls Tryz.prog 42 #[.agg #[.slice (some ⟨gs, os, none⟩) N cap, .int .i64 nw], .slice (some ⟨gb, ob, none⟩) N cb, .int .i64 d] w fun e w' => Below w.heap.size w w' ∧
      (fullZ sc N d = false ∧ (∃ v, e = .returned (.tuple #[v, .bool true]) ∧ NewL 2 N (nextV nw sc N d bg) w w' v) ∨ fullZ sc N d = true ∧ e = .returned (.tuple #[.slice none 0 0, .bool false])) := by
  rcases full_ways sc N d with ⟨hz, hall⟩ | ⟨hz, i, hi, h1, h2⟩
  · have go : ∀ (id : Nat) (ok), fst2 id (evDS (pgS (holeS nw sc bg (ot1 d)) (noFull N) ok) (spR N) 2000 60 (.fn 42) (ptVals 0 (patYe N)) (memT (ptObjs (patYe N))) 3) = some (.tuple #[.slice (some ⟨id, 0, none⟩) N OPEN, .bool true], some (.row (agRow N hDr) 74 true)) →
        reOk id false 9 (.tuple #[.slice (some ⟨id, 0, none⟩) N OPEN, .bool true]) = true → Calls Tryz.prog 42 #[.agg #[.slice (some ⟨gs, os, none⟩) N cap, .int .i64 nw], .slice (some ⟨gb, ob, none⟩) N cb, .int .i64 d] w fun e w' => Below w.heap.size w w' ∧
          ∃ v, e = .returned (.tuple #[v, .bool true]) ∧ NewL 2 N (nextV nw sc N d bg) w w' v := fun id ok hr hv => by
      refine Calls.mono (run_row (pats := patYe N) (P := pgS (holeS nw sc bg (ot1 d)) (noFull N) ok) (by kernel_rfl) (ok_spR2 hN.2 v0) (by show 2 ≤ 3; decide) (num_sb hN.2) hv (numG hN.2) (fun _ => trivial) hr (args' := #[.agg #[.slice (some ⟨gs, os, none⟩) N cap, .int .i64 nw], .slice (some ⟨gb, ob, none⟩) N cb, .int .i64 d]) ⟨patS_ok hN.2 hw, patB_ok hN.2 hwb, pt_v dD1, trivial⟩) ?_
      rintro e w' ⟨hb, v', b, ob', rfl, hge, hw', ho, hvr⟩
      obtain ⟨x, y, rfl, hx, hy⟩ := tup2_inv (hvr (fun _ => some (b, 0)) 0 rfl)
      obtain ⟨c2, rfl⟩ := osl_lit hx
      cases hy
      exact ⟨hb, _, rfl, b, c2, rfl, hge, winP_at.2 ⟨ob', hw', by have := win_at ho (row_ag (nw := nw) (bg := bg) hN.2); rwa [agRow, len2] at this⟩⟩
    have hok := ok_noFull (nw := nw) (bg := bg) hN.2 hall
    refine Calls.mono (show Calls Tryz.prog 42 #[.agg #[.slice (some ⟨gs, os, none⟩) N cap, .int .i64 nw], .slice (some ⟨gb, ob, none⟩) N cb, .int .i64 d] w fun e w' => Below w.heap.size w w' ∧ ∃ v, e = .returned (.tuple #[v, .bool true]) ∧ NewL 2 N (nextV nw sc N d bg) w w' v from ?_) (fun e w' ⟨hb, v, h1, h2⟩ => ⟨hb, .inl ⟨hz, v, h1, h2⟩⟩)
    obtain rfl | rfl | rfl | rfl : N = 1 ∨ N = 2 ∨ N = 3 ∨ N = 4 := by omega
    · exact go 11 hok (yeR1 _ hok) (by kernel_rfl)
    · exact go 16 hok (yeR2 _ hok) (by kernel_rfl)
    · exact go 21 hok (yeR3 _ hok) (by kernel_rfl)
    · exact go 26 hok (yeR4 _ hok) (by kernel_rfl)
  · have hr : ∀ ok, fstO (evDS (pgS (holeS nw sc bg (ot1 d)) (fullAt hDr i) ok) (spR N) 2000 60 (.fn 42) (ptVals 0 (patYe N)) (memT (ptObjs (patYe N))) 3) = some (.tuple #[.slice none 0 0, .bool false]) := fun ok => by
      obtain rfl | rfl | rfl | rfl : N = 1 ∨ N = 2 ∨ N = 3 ∨ N = 4 := by omega
      · obtain rfl : i = 0 := by omega
        · exact yeF1_0 _ ok
      · obtain rfl | rfl : i = 0 ∨ i = 1 := by omega
        · exact yeF2_0 _ ok
        · exact yeF2_1 _ ok
      · obtain rfl | rfl | rfl : i = 0 ∨ i = 1 ∨ i = 2 := by omega
        · exact yeF3_0 _ ok
        · exact yeF3_1 _ ok
        · exact yeF3_2 _ ok
      · obtain rfl | rfl | rfl | rfl : i = 0 ∨ i = 1 ∨ i = 2 ∨ i = 3 := by omega
        · exact yeF4_0 _ ok
        · exact yeF4_1 _ ok
        · exact yeF4_2 _ ok
        · exact yeF4_3 _ ok
    refine Calls.mono (run_ent (pats := patYe N) (P := pgS (holeS nw sc bg (ot1 d)) (fullAt hDr i) (okFullAt hN.2 dD1 hi h1 h2)) (by kernel_rfl) (ok_spR2 hN.2 v0) (by show 2 ≤ 3; decide) (num_sb hN.2) (by kernel_rfl) (hr _) #[.agg #[.slice (some ⟨gs, os, none⟩) N cap, .int .i64 nw], .slice (some ⟨gb, ob, none⟩) N cb, .int .i64 d] w ⟨patS_ok hN.2 hw, patB_ok hN.2 hwb, pt_v dD1, trivial⟩) ?_
    rintro e w' ⟨hb, v', rfl, hvr⟩
    exact ⟨hb, .inr ⟨hz, by rw [flat_eq rfl (hvr fun _ => none)]⟩⟩
theorem fu_key {gs os cap : Nat} {w : World} (hN : 1 ≤ N ∧ N ≤ 4) (hw : WinP gs os (4 * N) sc w) :
    Calls Tryz.prog 35 #[.agg #[.slice (some ⟨gs, os, none⟩) N cap, .int .i64 nw], .int .i64 d] w fun e w' => Below w.heap.size w w' ∧ e = .returned (iP (if fullZ sc N d = true then 16 else 0)) := by
  have num : (numO (.win (rowS N)) && true) = true := by rw [numOw numS]; rfl
  rcases full_ways sc N d with ⟨hz, hall⟩ | ⟨hz, i, hi, h1, h2⟩
  · have hr : ∀ ok, fstO (evDS (pgS (holeS nw sc (fun _ => 0) (ot1 d)) (noFull N) ok) spNone 2000 60 (.fn 35) (ptVals 0 (patFl N)) (memT (ptObjs (patFl N))) 3) = some (iP 0) := fun ok => by
      obtain rfl | rfl | rfl | rfl : N = 1 ∨ N = 2 ∨ N = 3 ∨ N = 4 := by omega
      · exact fuR1 _ ok
      · exact fuR2 _ ok
      · exact fuR3 _ ok
      · exact fuR4 _ ok
    refine Calls.mono (run_ent (pats := patFl N) (P := pgS (holeS nw sc (fun _ => 0) (ot1 d)) (noFull N) (ok_noFull hN.2 hall)) (by kernel_rfl) ok_spNone (by show 1 ≤ 3; decide) num (by kernel_rfl) (hr _) #[.agg #[.slice (some ⟨gs, os, none⟩) N cap, .int .i64 nw], .int .i64 d] w ⟨patS_ok hN.2 hw, pt_v dD1, trivial⟩) ?_
    rintro e w' ⟨hb, v', rfl, hvr⟩
    exact ⟨hb, by rw [flat_eq rfl (hvr fun _ => none), hz]; rfl⟩
  · have hr : ∀ ok, fstO (evDS (pgS (holeS nw sc (fun _ => 0) (ot1 d)) (fullAt hDr i) ok) spNone 2000 60 (.fn 35) (ptVals 0 (patFl N)) (memT (ptObjs (patFl N))) 3) = some (iP 16) := fun ok => by
      obtain rfl | rfl | rfl | rfl : N = 1 ∨ N = 2 ∨ N = 3 ∨ N = 4 := by omega
      · obtain rfl : i = 0 := by omega
        · exact fuF1_0 _ ok
      · obtain rfl | rfl : i = 0 ∨ i = 1 := by omega
        · exact fuF2_0 _ ok
        · exact fuF2_1 _ ok
      · obtain rfl | rfl | rfl : i = 0 ∨ i = 1 ∨ i = 2 := by omega
        · exact fuF3_0 _ ok
        · exact fuF3_1 _ ok
        · exact fuF3_2 _ ok
      · obtain rfl | rfl | rfl | rfl : i = 0 ∨ i = 1 ∨ i = 2 ∨ i = 3 := by omega
        · exact fuF4_0 _ ok
        · exact fuF4_1 _ ok
        · exact fuF4_2 _ ok
        · exact fuF4_3 _ ok
    refine Calls.mono (run_ent (pats := patFl N) (P := pgS (holeS nw sc (fun _ => 0) (ot1 d)) (fullAt hDr i) (okFullAt hN.2 dD1 hi h1 h2)) (by kernel_rfl) ok_spNone (by show 1 ≤ 3; decide) num (by kernel_rfl) (hr _) #[.agg #[.slice (some ⟨gs, os, none⟩) N cap, .int .i64 nw], .int .i64 d] w ⟨patS_ok hN.2 hw, pt_v dD1, trivial⟩) ?_
    rintro e w' ⟨hb, v', rfl, hvr⟩
    exact ⟨hb, by rw [flat_eq rfl (hvr fun _ => none), if_pos hz]⟩
/-- the first that is short, or -1 -/
def isSh (sc a : Nat → Int) (i : Nat) : Bool := decide (a (2 * i + 0) < sc (4 * i + 3))
def fstF (p : Nat → Bool) : Nat → Nat → Int
  | 0, _ => -1
  | m + 1, k => if p k then (k : Int) else fstF p m (k + 1)
theorem fstF_none {p : Nat → Bool} : ∀ m k, (∀ i, k ≤ i → i < k + m → p i = false) → fstF p m k = -1
  | 0, k, _ => rfl
  | m + 1, k, h => by
    unfold fstF
    rw [h k (Nat.le_refl _) (by omega)]
    exact fstF_none m (k + 1) fun i h1 h2 => h i (by omega) (by omega)
theorem fstF_at {p : Nat → Bool} : ∀ m k i, k ≤ i → i < k + m → p i = true → (∀ j, k ≤ j → j < i → p j = false) → fstF p m k = (i : Int)
  | 0, k, i, h1, h2, _, _ => by omega
  | m + 1, k, i, h1, h2, h3, h4 => by
    unfold fstF
    by_cases e : k = i
    · subst e; rw [if_pos h3]
    · rw [h4 k (Nat.le_refl _) (by omega)]
      exact fstF_at m (k + 1) i (by omega) (by omega) h3 fun j a b => h4 j (by omega) b
def shZ (sc a : Nat → Int) (N : Nat) : Int := fstF (isSh sc a) N 0
theorem sh_key {gs os cap gb ob cb : Nat} {w : World} (hN : 1 ≤ N ∧ N ≤ 4) (hw : WinP gs os (4 * N) sc w) (hwb : WinP gb ob (2 * N) bg w) :
    Calls Tryz.prog 43 #[.agg #[.slice (some ⟨gs, os, none⟩) N cap, .int .i64 nw], .slice (some ⟨gb, ob, none⟩) N cb] w fun e w' => Below w.heap.size w w' ∧ e = .returned (iP (shZ sc bg N)) := by
  have ok1 : ∀ i c, i < 4 → isSh sc bg i = c → OkF (DSy nw sc bg (ot1 0)) (bgSh i c) := fun i c h e => lt_is (dBg h (by decide)) (dSc h (by decide)) e
  rcases first_of (isSh sc bg) N with hall | ⟨i, hi, h1, h2⟩
  · have hr : ∀ ok, fstO (evDS (pgS (holeS nw sc bg (ot1 0)) (noSh N) ok) spNone 2000 60 (.fn 43) (ptVals 0 (patSh N)) (memT (ptObjs (patSh N))) 3) = some (iP (-1)) := fun ok => by
      obtain rfl | rfl | rfl | rfl : N = 1 ∨ N = 2 ∨ N = 3 ∨ N = 4 := by omega
      · exact shR1 _ ok
      · exact shR2 _ ok
      · exact shR3 _ ok
      · exact shR4 _ ok
    refine Calls.mono (run_ent (pats := patSh N) (P := pgS (holeS nw sc bg (ot1 0)) (noSh N) (ok_map fun i hi => ok1 i false (by omega) (hall i hi))) (by kernel_rfl) ok_spNone (by show 2 ≤ 3; decide) (num_sb hN.2) (by kernel_rfl) (hr _) #[.agg #[.slice (some ⟨gs, os, none⟩) N cap, .int .i64 nw], .slice (some ⟨gb, ob, none⟩) N cb] w ⟨patS_ok hN.2 hw, patB_ok hN.2 hwb, trivial⟩) ?_
    rintro e w' ⟨hb, v', rfl, hvr⟩
    exact ⟨hb, by rw [flat_eq rfl (hvr fun _ => none), shZ, fstF_none N 0 fun i _ hi => hall i (by omega)]⟩
  · have hr : ∀ ok, fstO (evDS (pgS (holeS nw sc bg (ot1 0)) (shAt i) ok) spNone 2000 60 (.fn 43) (ptVals 0 (patSh N)) (memT (ptObjs (patSh N))) 3) = some (iP i) := fun ok => by
      obtain rfl | rfl | rfl | rfl : N = 1 ∨ N = 2 ∨ N = 3 ∨ N = 4 := by omega
      · obtain rfl : i = 0 := by omega
        · exact shF1_0 _ ok
      · obtain rfl | rfl : i = 0 ∨ i = 1 := by omega
        · exact shF2_0 _ ok
        · exact shF2_1 _ ok
      · obtain rfl | rfl | rfl : i = 0 ∨ i = 1 ∨ i = 2 := by omega
        · exact shF3_0 _ ok
        · exact shF3_1 _ ok
        · exact shF3_2 _ ok
      · obtain rfl | rfl | rfl | rfl : i = 0 ∨ i = 1 ∨ i = 2 ∨ i = 3 := by omega
        · exact shF4_0 _ ok
        · exact shF4_1 _ ok
        · exact shF4_2 _ ok
        · exact shF4_3 _ ok
    refine Calls.mono (run_ent (pats := patSh N) (P := pgS (holeS nw sc bg (ot1 0)) (shAt i) (ok_app (ok_map fun j hj => ok1 j false (by omega) (h2 j hj)) (ok_one (ok1 i true (by omega) h1)))) (by kernel_rfl) ok_spNone (by show 2 ≤ 3; decide) (num_sb hN.2) (by kernel_rfl) (hr _) #[.agg #[.slice (some ⟨gs, os, none⟩) N cap, .int .i64 nw], .slice (some ⟨gb, ob, none⟩) N cb] w ⟨patS_ok hN.2 hw, patB_ok hN.2 hwb, trivial⟩) ?_
    rintro e w' ⟨hb, v', rfl, hvr⟩
    exact ⟨hb, by rw [flat_eq rfl (hvr fun _ => none), shZ, fstF_at N 0 i (Nat.zero_le _) (by omega) h1 fun j _ hj => h2 j hj]⟩
end
/-- the empty system -/
theorem fu0_key {d : Int} {w : World} : Calls Tryz.prog 35 #[.agg #[.slice none 0 0, .int .i64 0], .int .i64 d] w fun e w' => Below w.heap.size w w' ∧ e = .returned (iP 0) := by
  refine Calls.mono (run_ent (P := pgS (holeS 0 (fun _ => 0) (fun _ => 0) (ot1 d)) [] nil_ok) (by kernel_rfl) ok_spNone (by show 0 ≤ 3; decide) rfl (by kernel_rfl) (fuR0 _ nil_ok) #[.agg #[.slice none 0 0, .int .i64 0], .int .i64 d] w ⟨fun M => LRel.agg (LRel.cons (.nils 0 0) (LRel.cons (.int .i64 0) (LRel.nil M))), pt_v dD1, trivial⟩) ?_
  rintro e w' ⟨hb, v', rfl, hvr⟩
  exact ⟨hb, by rw [flat_eq rfl (hvr fun _ => none)]⟩

/-! Copies. -/
theorem hC_dv {nw : Int} {g : Nat → Int} {n : Nat} (i : Nat) (v : Value) (hv : (rowC n)[i]? = some v) : Dv (DSy nw (fun _ => 0) (fun _ => 0) (fun k => g (k - 400))) v (g i) :=
  map_dv (f := hC) (fun i _ => (by
    have := dOt (nw := nw) (sc := fun _ => 0) (bg := fun _ => 0) (ot := fun k => g (k - 400)) (n := 400 + i) (by omega)
    rwa [show 400 + i - 400 = i by omega] at this)) i v hv
theorem numC {n : Nat} : (rowC n).all isNum = true := List.all_eq_true.2 fun v hv => by obtain ⟨k, _, rfl⟩ := List.mem_map.1 hv; rfl
theorem cb_key {g : Nat → Int} {n gs os cap : Nat} {w : World} (hn : n = 1 ∨ n = 2 ∨ n = 3 ∨ n = 4 ∨ n = 5 ∨ n = 6) (hw : WinP gs os (2 * n) g w) :
    Calls Tryz.prog 9 #[.slice (some ⟨gs, os, none⟩) n cap] w fun e w' => Below w.heap.size w w' ∧ ∃ v, e = .returned v ∧ NewL 2 n g w w' v := by
  have hr : ∀ ok, fst2 4 (evDS (pgS (holeS 0 (fun _ => 0) (fun _ => 0) (fun k => g (k - 400))) [] ok) spNone 2000 60 (.fn 9) (ptVals 0 (patCb n)) (memT (ptObjs (patCb n))) 3) = some (.slice (some ⟨4, 0, none⟩) n OPEN, some (.row (rowC (2 * n)) 74 true)) := fun ok => by
    rcases hn with rfl | rfl | rfl | rfl | rfl | rfl
    · exact cbR1 _ ok
    · exact cbR2 _ ok
    · exact cbR3 _ ok
    · exact cbR4 _ ok
    · exact cbR5 _ ok
    · exact cbR6 _ ok
  obtain ⟨ob, h1, h2⟩ := winP_at.1 hw
  refine Calls.mono (run_row (P := pgS (holeS 0 (fun _ => 0) (fun _ => 0) (fun k => g (k - 400))) [] nil_ok) (by kernel_rfl) ok_spNone (by show 1 ≤ 3; decide) (by show (numO (.win (rowC (2 * n))) && true) = true; rw [numOw numC]; rfl) (by kernel_rfl) numC (fun _ => trivial) (hr nil_ok) (args' := #[.slice (some ⟨gs, os, none⟩) n cap])
    ⟨pt_lst (P := pgS (holeS 0 (fun _ => 0) (fun _ => 0) (fun k => g (k - 400))) [] nil_ok) (.lit (n : Int)) h1 (at_win (P := pgS (holeS 0 (fun _ => 0) (fun _ => 0) (fun k => g (k - 400))) [] nil_ok) (fun _ => trivial) (by simpa [rowC] using h2) hC_dv), trivial⟩) ?_
  rintro e w' ⟨hb, v', b, ob', rfl, hge, hw', ho, hvr⟩
  obtain ⟨c2, rfl⟩ := osl_lit (hvr (fun _ => some (b, 0)) 0 rfl)
  exact ⟨hb, _, rfl, b, c2, rfl, hge, winP_at.2 ⟨ob', hw', by have := win_at ho hC_dv; simpa [rowC] using this⟩⟩
theorem cd_key {g : Nat → Int} {n gs os cap : Nat} {w : World} (hn : n = 1 ∨ n = 2 ∨ n = 3 ∨ n = 4 ∨ n = 5 ∨ n = 6 ∨ n = 31 ∨ n = 32) (hw : WinP gs os (1 * n) g w) :
    Calls Tryz.prog 10 #[.slice (some ⟨gs, os, none⟩) n cap] w fun e w' => Below w.heap.size w w' ∧ ∃ v, e = .returned v ∧ NewL 1 n g w w' v := by
  have hr : ∀ ok, fst2 4 (evDS (pgS (holeS 0 (fun _ => 0) (fun _ => 0) (fun k => g (k - 400))) [] ok) spNone 2000 60 (.fn 10) (ptVals 0 (patCd n)) (memT (ptObjs (patCd n))) 3) = some (.slice (some ⟨4, 0, none⟩) n OPEN, some (.row (rowC n) 3 true)) := fun ok => by
    rcases hn with rfl | rfl | rfl | rfl | rfl | rfl | rfl | rfl
    · exact cdR1 _ ok
    · exact cdR2 _ ok
    · exact cdR3 _ ok
    · exact cdR4 _ ok
    · exact cdR5 _ ok
    · exact cdR6 _ ok
    · exact cdR31 _ ok
    · exact cdR32 _ ok
  obtain ⟨ob, h1, h2⟩ := winP_at.1 hw
  refine Calls.mono (run_row (P := pgS (holeS 0 (fun _ => 0) (fun _ => 0) (fun k => g (k - 400))) [] nil_ok) (by kernel_rfl) ok_spNone (by show 1 ≤ 3; decide) (by show (numO (.win (rowC n)) && true) = true; rw [numOw numC]; rfl) (by kernel_rfl) numC (fun _ => trivial) (hr nil_ok) (args' := #[.slice (some ⟨gs, os, none⟩) n cap])
    ⟨pt_lst (P := pgS (holeS 0 (fun _ => 0) (fun _ => 0) (fun k => g (k - 400))) [] nil_ok) (.lit (n : Int)) h1 (at_win (P := pgS (holeS 0 (fun _ => 0) (fun _ => 0) (fun k => g (k - 400))) [] nil_ok) (fun _ => trivial) (by simpa [rowC] using h2) hC_dv), trivial⟩) ?_
  rintro e w' ⟨hb, v', b, ob', rfl, hge, hw', ho, hvr⟩
  obtain ⟨c2, rfl⟩ := osl_lit (hvr (fun _ => some (b, 0)) 0 rfl)
  exact ⟨hb, _, rfl, b, c2, rfl, hge, winP_at.2 ⟨ob', hw', by have := win_at ho hC_dv; simpa [rowC] using this⟩⟩
theorem cs_key {nw : Int} {g : Nat → Int} {n gs os cap : Nat} {w : World} (hn : n = 1 ∨ n = 2 ∨ n = 3 ∨ n = 4 ∨ n = 5 ∨ n = 6) (hw : WinP gs os (4 * n) g w) :
    Calls Tryz.prog 8 #[.agg #[.slice (some ⟨gs, os, none⟩) n cap, .int .i64 nw]] w fun e w' => Below w.heap.size w w' ∧ ∃ v, e = .returned (.agg #[v, .int .i64 nw]) ∧ NewL 4 n g w w' v := by
  have hr : ∀ ok, fst2 6 (evDS (pgS (holeS nw (fun _ => 0) (fun _ => 0) (fun k => g (k - 400))) [] ok) spNone 2000 60 (.fn 8) (ptVals 0 (patCs n)) (memT (ptObjs (patCs n))) 3) = some (.agg #[.slice (some ⟨6, 0, none⟩) n OPEN, hNew], some (.row (rowC (4 * n)) 112 true)) := fun ok => by
    rcases hn with rfl | rfl | rfl | rfl | rfl | rfl
    · exact csR1 _ ok
    · exact csR2 _ ok
    · exact csR3 _ ok
    · exact csR4 _ ok
    · exact csR5 _ ok
    · exact csR6 _ ok
  obtain ⟨ob, h1, h2⟩ := winP_at.1 hw
  refine Calls.mono (run_row (P := pgS (holeS nw (fun _ => 0) (fun _ => 0) (fun k => g (k - 400))) [] nil_ok) (by kernel_rfl) ok_spNone (by show 1 ≤ 3; decide) (by show (numO (.win (rowC (4 * n))) && true) = true; rw [numOw numC]; rfl) (by kernel_rfl) numC (fun _ => trivial) (hr nil_ok) (args' := #[.agg #[.slice (some ⟨gs, os, none⟩) n cap, .int .i64 nw]])
    ⟨pt_sys (P := pgS (holeS nw (fun _ => 0) (fun _ => 0) (fun k => g (k - 400))) [] nil_ok) (.lit (n : Int)) dNew h1 (at_win (P := pgS (holeS nw (fun _ => 0) (fun _ => 0) (fun k => g (k - 400))) [] nil_ok) (fun _ => trivial) (by simpa [rowC] using h2) hC_dv), trivial⟩) ?_
  rintro e w' ⟨hb, v', b, ob', rfl, hge, hw', ho, hvr⟩
  obtain ⟨x, y, rfl, hx, hy⟩ := agg2_inv (hvr (fun _ => some (b, 0)) 0 rfl)
  obtain ⟨c2, rfl⟩ := osl_lit hx
  obtain ⟨z, rfl, dz⟩ := vrel_num hy rfl
  have := (dNew (nw := nw) (sc := fun _ => 0) (bg := fun _ => 0) (ot := fun k => g (k - 400))).unique _ dz
  subst this
  exact ⟨hb, _, rfl, b, c2, rfl, hge, winP_at.2 ⟨ob', hw', by have := win_at ho hC_dv; simpa [rowC] using this⟩⟩

end Sy
end Go.Proofs.YtdejmleboflopaaGreat
