/- The reference's CheckBook of any book, its lists wherever they lie. -/
import Derived.Test.YtlmnhlmgbcpclaaBB
import Derived.Test.YtlmnhlmgbcpclaaJ17
set_option linter.unusedVariables false
set_option linter.unusedSimpArgs false
namespace Go.Proofs.Ytlmnhlmgbcpclaa
open Go.RowKit
namespace Sy
open Go.RowKit

theorem arr4 {P : Pg} {a : Array Value} {l : List Value} {M : Mp} (h : LRel P M l a.toList) (hl : l.length = 4) : ∃ x y z u, a = #[x, y, z, u] := by
  have h2 : a.toList.length = 4 := by rw [← h.1]; exact hl
  match he : a.toList, h2 with
  | [x, y, z, u], _ => exact ⟨x, y, z, u, Array.ext' he⟩
/-- the first that is wrong -/
theorem first_bad (E : Nat → Int) : ∀ n : Nat, (∀ i, i < n → E i = 0) ∨ ∃ k, k < n ∧ E k ≠ 0 ∧ ∀ i, i < k → E i = 0
  | 0 => .inl fun i h => by omega
  | n + 1 => by
    rcases first_bad E n with h | ⟨k, h1, h2, h3⟩
    · by_cases e : E n = 0
      · refine .inl fun i hi => ?_
        by_cases hn : i = n
        · rw [hn]; exact e
        · exact h i (by omega)
      · exact .inr ⟨n, by omega, e, h⟩
    · exact .inr ⟨k, by omega, h2, h3⟩
theorem eachF_from (E : Nat → Int) {n k : Nat} (hk : k < n) (hb : E k ≠ 0) : ∀ j, j ≤ k → (∀ i, j ≤ i → i < k → E i = 0) → eachF E (n - j) j = ((k : Int), E k) := by
  intro j hj
  obtain ⟨d, hd⟩ : ∃ d, k - j = d := ⟨_, rfl⟩
  induction d generalizing j with
  | zero =>
    intro _
    have : j = k := by omega
    subst this
    rw [eachF_step E n j hk, if_neg hb]
  | succ d ih =>
    intro h
    rw [eachF_step E n j (by omega), if_pos (h j (Nat.le_refl _) (by omega))]
    exact ih (j + 1) (by omega) (by omega) fun i h1 h2 => h i (by omega) h2
theorem eachF_bad0 {E : Nat → Int} {n k : Nat} (hk : k < n) (hb : E k ≠ 0) (h : ∀ i, i < k → E i = 0) : eachF E n 0 = ((k : Int), E k) := eachF_from E hk hb 0 (Nat.zero_le _) fun i _ hi => h i hi
theorem eachF_none {E : Nat → Int} {n : Nat} : ∀ j, (∀ i, j ≤ i → i < j + n → E i = 0) → eachF E n j = (0, 0) := by
  induction n with
  | zero => intro j _; rfl
  | succ n ih =>
    intro j h
    show (if E j = 0 then eachF E n (j + 1) else _) = _
    rw [if_pos (h j (Nat.le_refl _) (by omega))]
    exact ih (j + 1) fun i h1 h2 => h i (by omega) (by omega)
section
variable {B : Bk} {nu : Nat → List Int → Int} {P : Pg}
/-- what a symbol of an element's number stands for -/
theorem ap1_rel {M : Mp} {t : Nat} {i v' : Value} (h : IsB B nu P) (h1 : 100 ≤ t) (h2 : t < 1000) (hr : VRel P M (ap1 t i) v') : ∃ z : Int, Dv P.den i z ∧ v' = .int .i64 (numB B nu t [z]) := by
  obtain ⟨x, rfl, d⟩ := vrel_num hr (by
    show (Nat.ble t 20 || Nat.ble 100 t) = true
    rw [Nat.ble_eq_true_of_le h1, Bool.or_true])
  cases d with
  | @app t us xs ht hs ha =>
    match xs, hs with
    | [z], hs =>
      refine ⟨z, ha 0 i z rfl rfl, ?_⟩
      rw [h.int, show (DB B (fun _ => 0) nu).int t [z] = numB B nu t [z] from famD_num h2 _]
theorem s1_rel {M : Mp} {c : Nat} {i v' : Value} (h : IsB B nu P) (hr : VRel P M (mkF1 98 c [i]) v') : ∃ z : Int, Dv P.den i z ∧ v' = .string (strB B c [z]) := by
  obtain ⟨xs, hd, e⟩ := fst_rel (mkF1_list c [i]) hr
  match xs, hd.1 with
  | [z], _ => exact ⟨z, hd.2 0 i z rfl rfl, by rw [e, h.str]⟩
theorem dv_ap1 (h : IsB B nu P) {t : Nat} {i : Value} {z : Int} (h1 : 100 ≤ t) (h2 : t < 1000) (hz : Dv P.den i z) : Dv P.den (ap1 t i) (numB B nu t [z]) := by
  have := Dv.ap1 (D := P.den) (t := t) h1 hz
  rwa [h.int, show (DB B (fun _ => 0) nu).int t [z] = numB B nu t [z] from famD_num h2 _] at this
theorem ent_rd (h : IsB B nu P) (i : Value) : EntOk P (eRd i) := fun args' w hp => by
  match he : args'.toList, hp with
  | [a], hp =>
    obtain rfl : args' = #[a] := Array.ext' he
    have hv := hp.1 (fun _ => none)
    cases hv with
    | @agg _ a' hs h1 =>
      obtain ⟨x0, x1, x2, x3, rfl⟩ := arr4 (lrel_arr.2 ⟨hs, h1⟩) rfl
      obtain ⟨z, d0, e0⟩ := s1_rel h (h1 0 _ _ rfl rfl)
      obtain ⟨z1, d1, e1⟩ := ap1_rel h (t := 110) (by decide) (by decide) (h1 1 _ _ rfl rfl)
      obtain ⟨z2, d2, e2⟩ := ap1_rel h (t := 111) (by decide) (by decide) (h1 2 _ _ rfl rfl)
      obtain ⟨z3, d3, e3⟩ := ap1_rel h (t := 112) (by decide) (by decide) (h1 3 _ _ rfl rfl)
      obtain rfl := d0.unique _ d1
      obtain rfl := d0.unique _ d2
      obtain rfl := d0.unique _ d3
      subst e0 e1 e2 e3
      rw [h.prog]
      refine Calls.mono (rrdE_any _ _ _ _ w) ?_
      rintro e w2 ⟨rfl, hb⟩
      exact ⟨hb, _, rfl, fun M => (dv_ap1 h (t := 113) (by decide) (by decide) d0).vrel⟩
  | [], hp => exact hp.elim
  | _ :: _ :: _, hp => exact hp.2.elim
theorem ent_mv (h : IsB B nu P) (i : Value) : EntOk P (eMv i) := fun args' w hp => by
  match he : args'.toList, hp with
  | [a], hp =>
    obtain rfl : args' = #[a] := Array.ext' he
    have hv := hp.1 (fun _ => none)
    cases hv with
    | @agg _ a' hs h1 =>
      obtain ⟨x0, x1, x2, x3, rfl⟩ := arr4 (lrel_arr.2 ⟨hs, h1⟩) rfl
      obtain ⟨z, d0, e0⟩ := ap1_rel h (t := 120) (by decide) (by decide) (h1 0 _ _ rfl rfl)
      obtain ⟨z1, d1, e1⟩ := s1_rel h (h1 1 _ _ rfl rfl)
      obtain ⟨z2, d2, e2⟩ := s1_rel h (h1 2 _ _ rfl rfl)
      obtain ⟨z3, d3, e3⟩ := ap1_rel h (t := 121) (by decide) (by decide) (h1 3 _ _ rfl rfl)
      obtain rfl := d0.unique _ d1
      obtain rfl := d0.unique _ d2
      obtain rfl := d0.unique _ d3
      subst e0 e1 e2 e3
      rw [h.prog]
      refine Calls.mono (rmvE_any _ _ _ _ w) ?_
      rintro e w2 ⟨rfl, hb⟩
      exact ⟨hb, _, rfl, fun M => (dv_ap1 h (t := 122) (by decide) (by decide) d0).vrel⟩
  | [], hp => exact hp.elim
  | _ :: _ :: _, hp => exact hp.2.elim
theorem ent_rg (h : IsB B nu P) {e : Int} (hd : ∀ lo hi, Dv P.den hLo lo → Dv P.den hHi hi → Dv P.den (ho 10) (rangeE lo hi 100000)) : EntOk P eRg := fun args' w hp => by
  match he : args'.toList, hp with
  | [a, b], hp =>
    obtain rfl : args' = #[a, b] := Array.ext' he
    have hv := hp.1 (fun _ => none)
    have hw := hp.2.1 (fun _ => none)
    cases hv with
    | @agg _ a' hs h1 =>
      obtain ⟨x0, x1, rfl⟩ := arr2 (lrel_arr.2 ⟨hs, h1⟩) rfl
      obtain ⟨lo, rfl, d0⟩ := vrel_num (h1 0 _ _ rfl rfl) rfl
      obtain ⟨hi, rfl, d1⟩ := vrel_num (h1 1 _ _ rfl rfl) rfl
      cases hw
      rw [h.prog]
      refine Calls.mono (rrngE_any lo hi 100000 w) ?_
      rintro e w2 ⟨rfl, hb⟩
      exact ⟨hb, _, rfl, fun M => (hd lo hi d0 d1).vrel⟩
  | [], hp => exact hp.elim
  | [_], hp => exact hp.2.elim
  | _ :: _ :: _ :: _, hp => exact hp.2.2.elim

/-! The loops. -/
theorem b1w {k : Nat} (h : k < 9223372036854775807) : binN 1 (k : Int) 1 = ((k + 1 : Nat) : Int) := by
  show IntKind.i64.wrap ((k : Int) + 1) = _
  rw [show ((k + 1 : Nat) : Int) = (k : Int) + 1 by omega]
  rw [IntKind.wrap_i64]
  omega
theorem b2w {k : Nat} (h0 : 0 < k) (h : k < 9223372036854775807) : binN 2 (k : Int) 1 = ((k - 1 : Nat) : Int) := by
  show IntKind.i64.wrap ((k : Int) - 1) = _
  rw [show ((k - 1 : Nat) : Int) = (k : Int) - 1 by omega]
  rw [IntKind.wrap_i64]
  omega
theorem semR (h : BkOk B) (hP : IsB B nu P) {sp : CallF} (hsp : ∀ P', IsB B nu P' → (∀ n, n ≠ 50 → n ≠ 51 → P'.den.hole n = P.den.hole n) → CallOk P' sp) (hc : cleanF P.toPd [50] = true) {fin : Value} {k1 : Nat} (hf : Dv P.den fin (k1 : Nat)) (hk : k1 ≤ B.n)
    (hok : ∀ i, i < k1 → rdE (B.x i) = 0 ∧ (0 < i → ¬ (B.x i).d < (B.x (i - 1)).d)) : LoopSem P (loopR fin) (fun P' => GoodE sp 0 P' []) := by
  have good : ∀ P', IsB B nu P' → (∀ n, n ≠ 50 → n ≠ 51 → P'.den.hole n = P.den.hole n) → GoodE sp 0 P' [] := fun P' k1 k2 => ⟨hsp P' k1 k2, rfl⟩
  refine loopSem_of (x := loopR fin) (good P hP fun n _ _ => rfl) (show [50].Nodup by decide) hc (fun xs => ∃ i : Nat, xs = [(i : Int)] ∧ i ≤ k1) (fun xs => match xs with | [x] => k1 - x.toNat | _ => 0) [0] [(k1 : Int)] ⟨0, rfl, Nat.zero_le _⟩ (DvL.cons (dv_li 0) (DvL.nil _)) (DvL.cons hf (DvL.nil _)) (fun xs P' hI hp hd => good P' (hP.upd hp hd) fun n h1 h2 => (by rw [hd]; exact holeU_out _ _ n _ (by simp [LSpec.hs, loopR]; omega))) ?_
  rintro xs ⟨i, rfl, hi⟩
  by_cases he : i = k1
  · exact .inl (by rw [he])
  have hlt : i < k1 := by omega
  have hB := h.rn
  have hB2 := h.mn
  obtain ⟨D, hD⟩ : ∃ D, D = updD P.den ((loopR fin).hs.map fun h => h.2) [(i : Int)] := ⟨_, rfl⟩
  rw [← hD]
  have hint : D.int = (DB B (fun _ => 0) nu).int := by rw [hD]; exact hP.int
  have dI : Dv D hI (i : Nat) := by rw [hD]; exact dv_ho rfl
  have dN : Dv D nR (B.n : Int) := dv_nR hint h
  have dE : Dv D (rE hI) (rdE (B.x i)) := dvB (t := 113) hint (by decide) (by decide) dI rfl
  have dD : Dv D (rD hI) (B.x i).d := dvB (t := 110) hint (by decide) (by decide) dI rfl
  obtain ⟨o1, o2⟩ := hok i hlt
  have dNx : Dv D (bn 1 hI (li 1)) ((i + 1 : Nat) : Int) := by
    have := dv_bn (t := 1) (by decide) dI (dv_li 1)
    rwa [b1w (by omega)] at this
  have fin1 : ∃ ys : List Int, (∃ j : Nat, ys = [(j : Int)] ∧ j ≤ k1) ∧ (match ys with | [x] => k1 - x.toNat | _ => 0) < (match [(i : Int)] with | [x] => k1 - x.toNat | _ => 0) ∧ PostsOk D [(5, bn 1 hI (li 1))] [(5, 50)] ys :=
    ⟨[((i + 1 : Nat) : Int)], ⟨i + 1, rfl, by omega⟩, by show k1 - ((i + 1 : Nat) : Int).toNat < k1 - ((i : Nat) : Int).toNat; omega, ⟨_, List.mem_singleton.2 rfl, dNx⟩, trivial⟩
  by_cases hi0 : i = 0
  · exact .inr ⟨_, List.mem_cons_self, ⟨leY (dv_li 0) dI (by omega), ltY dI dN (by omega), eqY dE (dv_li 0) o1, ltN (dv_li 0) dI (by omega), trivial⟩, trivial, fin1⟩
  · have dP : Dv D (bn 2 hI (li 1)) ((i - 1 : Nat) : Int) := by
      have := dv_bn (t := 2) (by decide) dI (dv_li 1)
      rwa [b2w (by omega) (by omega)] at this
    have dDp : Dv D (rD (bn 2 hI (li 1))) (B.x (i - 1)).d := dvB (t := 110) hint (by decide) (by decide) dP rfl
    exact .inr ⟨_, List.mem_cons_of_mem _ List.mem_cons_self, ⟨leY (dv_li 0) dI (by omega), ltY dI dN (by omega), eqY dE (dv_li 0) o1, ltY (dv_li 0) dI (by omega), leY (dv_li 0) dP (by omega), ltY dP dN (by omega), ltN dD dDp (o2 (by omega)), trivial⟩, trivial, fin1⟩
theorem semM (h : BkOk B) (hP : IsB B nu P) {sp : CallF} (hsp : ∀ P', IsB B nu P' → (∀ n, n ≠ 50 → n ≠ 51 → P'.den.hole n = P.den.hole n) → CallOk P' sp) (hc : cleanF P.toPd [51] = true) {fin : Value} {k1 : Nat} (hf : Dv P.den fin (k1 : Nat)) (hk : k1 ≤ B.m)
    (hok : ∀ i, i < k1 → mvE (B.y i) = 0 ∧ (0 < i → ¬ (B.y i).d < (B.y (i - 1)).d)) : LoopSem P (loopM fin) (fun P' => GoodE sp 0 P' []) := by
  have good : ∀ P', IsB B nu P' → (∀ n, n ≠ 50 → n ≠ 51 → P'.den.hole n = P.den.hole n) → GoodE sp 0 P' [] := fun P' k1 k2 => ⟨hsp P' k1 k2, rfl⟩
  refine loopSem_of (x := loopM fin) (good P hP fun n _ _ => rfl) (show [51].Nodup by decide) hc (fun xs => ∃ i : Nat, xs = [(i : Int)] ∧ i ≤ k1) (fun xs => match xs with | [x] => k1 - x.toNat | _ => 0) [0] [(k1 : Int)] ⟨0, rfl, Nat.zero_le _⟩ (DvL.cons (dv_li 0) (DvL.nil _)) (DvL.cons hf (DvL.nil _)) (fun xs P' hI hp hd => good P' (hP.upd hp hd) fun n h1 h2 => (by rw [hd]; exact holeU_out _ _ n _ (by simp [LSpec.hs, loopM]; omega))) ?_
  rintro xs ⟨i, rfl, hi⟩
  by_cases he : i = k1
  · exact .inl (by rw [he])
  have hlt : i < k1 := by omega
  have hB := h.rn
  have hB2 := h.mn
  obtain ⟨D, hD⟩ : ∃ D, D = updD P.den ((loopM fin).hs.map fun h => h.2) [(i : Int)] := ⟨_, rfl⟩
  rw [← hD]
  have hint : D.int = (DB B (fun _ => 0) nu).int := by rw [hD]; exact hP.int
  have dI : Dv D hJ (i : Nat) := by rw [hD]; exact dv_ho rfl
  have dN : Dv D nM (B.m : Int) := dv_nM hint h
  have dE : Dv D (mE hJ) (mvE (B.y i)) := dvB (t := 122) hint (by decide) (by decide) dI rfl
  have dD : Dv D (mD hJ) (B.y i).d := dvB (t := 120) hint (by decide) (by decide) dI rfl
  obtain ⟨o1, o2⟩ := hok i hlt
  have dNx : Dv D (bn 1 hJ (li 1)) ((i + 1 : Nat) : Int) := by
    have := dv_bn (t := 1) (by decide) dI (dv_li 1)
    rwa [b1w (by omega)] at this
  have fin1 : ∃ ys : List Int, (∃ j : Nat, ys = [(j : Int)] ∧ j ≤ k1) ∧ (match ys with | [x] => k1 - x.toNat | _ => 0) < (match [(i : Int)] with | [x] => k1 - x.toNat | _ => 0) ∧ PostsOk D [(7, bn 1 hJ (li 1))] [(7, 51)] ys :=
    ⟨[((i + 1 : Nat) : Int)], ⟨i + 1, rfl, by omega⟩, by show k1 - ((i + 1 : Nat) : Int).toNat < k1 - ((i : Nat) : Int).toNat; omega, ⟨_, List.mem_singleton.2 rfl, dNx⟩, trivial⟩
  by_cases hi0 : i = 0
  · exact .inr ⟨_, List.mem_cons_self, ⟨leY (dv_li 0) dI (by omega), ltY dI dN (by omega), eqY dE (dv_li 0) o1, ltN (dv_li 0) dI (by omega), trivial⟩, trivial, fin1⟩
  · have dP : Dv D (bn 2 hJ (li 1)) ((i - 1 : Nat) : Int) := by
      have := dv_bn (t := 2) (by decide) dI (dv_li 1)
      rwa [b2w (by omega) (by omega)] at this
    have dDp : Dv D (mD (bn 2 hJ (li 1))) (B.y (i - 1)).d := dvB (t := 120) hint (by decide) (by decide) dP rfl
    exact .inr ⟨_, List.mem_cons_of_mem _ List.mem_cons_self, ⟨leY (dv_li 0) dI (by omega), ltY dI dN (by omega), eqY dE (dv_li 0) o1, ltY (dv_li 0) dI (by omega), leY (dv_li 0) dP (by omega), ltY dP dN (by omega), ltN dD dDp (o2 (by omega)), trivial⟩, trivial, fin1⟩
end
end Sy
end Go.Proofs.Ytlmnhlmgbcpclaa
