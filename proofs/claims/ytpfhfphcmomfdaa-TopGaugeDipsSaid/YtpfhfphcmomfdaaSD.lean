/- VolumeTo of a right cask of two, three or four stations, up to a right dip or a wrong one. -/
import Derived.Test.YtpfhfphcmomfdaaSC
set_option linter.unusedVariables false
set_option linter.unusedSimpArgs false
namespace Go.Proofs.Ytpfhfphcmomfdaa
open Go.RowKit
namespace Sy
open Go.RowKit

theorem firstL_zero : ∀ (l : List Int), firstL l = 0 → ∀ x ∈ l, x = 0
  | [], _, x, h => by cases h
  | y :: l, h, x, hx => by
    unfold firstL at h
    by_cases hy : y = 0
    · rw [if_neg (by simp [hy])] at h
      rcases List.mem_cons.1 hx with e | e
      · rw [e, hy]
      · exact firstL_zero l h x e
    · rw [if_pos hy] at h
      exact absurd h hy
theorem eachF_zero (E : Nat → Int) : ∀ n k, (eachF E n k).2 = 0 → ∀ i, k ≤ i → i < k + n → E i = 0
  | 0, k, _, i, h1, h2 => by omega
  | n + 1, k, h, i, h1, h2 => by
    unfold eachF at h
    by_cases hk : E k = 0
    · rw [if_pos hk] at h
      by_cases hi : i = k
      · rw [hi]; exact hk
      · exact eachF_zero E n (k + 1) h i (by omega) (by omega)
    · rw [if_neg hk] at h
      exact absurd h hk
theorem numE_zero {n lo hi : Int} (h : numE n lo hi = 0) : lo ≤ n ∧ n ≤ hi := by
  unfold numE at h
  split at h
  · rename_i hb; exact inB_iff.1 hb
  · cases h
theorem unlE_zero {b : Bool} {e : Int} (he : e ≠ 0) (h : unlE b e = 0) : b = true := by
  cases b with
  | true => rfl
  | false => exact absurd h he
structure CaskOk (bung : Int) (xs : List Int) (N : Nat) : Prop where
  two : 2 ≤ N
  twelve : N ≤ 12
  lo : 10 ≤ bung
  hi : bung ≤ 800
  st : ∀ i, i < N → 0 ≤ xs.getD (i * 3) 0 ∧ xs.getD (i * 3) 0 ≤ 3000 ∧ 10 ≤ xs.getD (i * 3 + 1) 0 ∧ xs.getD (i * 3 + 1) 0 ≤ bung ∧ 10 ≤ xs.getD (i * 3 + 2) 0 ∧ xs.getD (i * 3 + 2) 0 ≤ bung ∧ xs.getD (i * 3 + 1) 0 ≤ xs.getD (i * 3 + 2) 0
  up : ∀ i, 0 < i → i < N → xs.getD ((i - 1) * 3) 0 < xs.getD (i * 3) 0
theorem caskS_ok {s : ByteArray} {bung : Int} {xs : List Int} {N : Nat} (hl : xs.length = N * 3) (h : (caskS s bung xs).2 = 0) : CaskOk bung xs N := by
  have hN : xs.length / 3 = N := by omega
  unfold caskS at h
  rw [hN] at h
  by_cases hz : caskE s bung N = 0
  · rw [if_neg (by simp [hz])] at h
    obtain ⟨_, h2, h3, h4⟩ := firstL4_zero (hz : firstL [unlE (nameB s) 4, numE bung 10 800, unlE (decide ((2 : Int) ≤ (N : Int))) 10, unlE (decide ((N : Int) ≤ 12)) 8] = 0)
    have h2 := numE_zero h2
    have h3 : (2 : Int) ≤ N := by simpa using unlE_zero (by decide) h3
    have h4 : (N : Int) ≤ 12 := by simpa using unlE_zero (by decide) h4
    have he := fun i (hi : i < N) => eachF_zero _ _ _ h i (Nat.zero_le _) (by omega)
    refine ⟨by omega, by omega, h2.1, h2.2, fun i hi => ?_, fun i h0 hi => ?_⟩
    · have h5 := firstL_zero _ (he i hi)
      have h6 := firstL_zero _ (h5 _ List.mem_cons_self)
      have a1 := numE_zero (h6 (numE (snOf xs i).a 0 3000) (by simp))
      have a2 := numE_zero (h6 (numE (snOf xs i).i 10 bung) (by simp))
      have a3 := numE_zero (h6 (numE (snOf xs i).o 10 bung) (by simp))
      have a4 := unlE_zero (by decide) (h6 (unlE (decide ((snOf xs i).i ≤ (snOf xs i).o)) 9) (by simp))
      have a4 : (snOf xs i).i ≤ (snOf xs i).o := by simpa using a4
      exact ⟨a1.1, a1.2, a2.1, a2.2, a3.1, a3.2, a4⟩
    · have h5 := firstL_zero _ (he i hi)
      have a5 := unlE_zero (by decide) (h5 (unlE (decide (i = 0) || decide ((snOf xs (i - 1)).a < (snOf xs i).a)) 9) (by simp))
      have : (snOf xs (i - 1)).a < (snOf xs i).a := by
        rcases Bool.or_eq_true_iff.1 a5 with e | e
        · simp at e; omega
        · simpa using e
      exact this
  · rw [if_pos hz] at h
    exact absurd h hz

section
variable {s : ByteArray} {bung dip : Int} {xs : List Int} {O : Obj → Prop}
abbrev D0 (s : ByteArray) (bung dip : Int) (xs : List Int) (O : Obj → Prop) : Dn := denG s (holeV s bung dip xs) O
theorem dBung : Dv (D0 s bung dip xs O) hBung bung := .hole rfl
theorem dDip : Dv (D0 s bung dip xs O) hDip dip := .hole rfl
theorem dSt (i j : Nat) : Dv (D0 s bung dip xs O) (hSt i j) (xs.getD (i * 3 + j) 0) := .hole rfl
theorem dLv : Dv (D0 s bung dip xs O) lvV (IntKind.i64.wrap (dip - bung)) := .bin (t := 2) (by decide) dDip dBung
theorem app2 {D : Dn} {t : Nat} (ht : 100 ≤ t) {a b : Value} {x y : Int} (ha : Dv D a x) (hb : Dv D b y) : Dv D (.iface t (.tuple #[a, b])) (D.int t [x, y]) := .app ht rfl (fun i v z hv hz => by
  match i with
  | 0 => simp at hv hz; subst hv hz; exact ha
  | 1 => simp at hv hz; subst hv hz; exact hb
  | i + 2 => simp at hv)
theorem app1 {D : Dn} {t : Nat} (ht : 100 ≤ t) {a : Value} {x : Int} (ha : Dv D a x) : Dv D (.iface t (.tuple #[a])) (D.int t [x]) := .app ht rfl (fun i v z hv hz => by
  match i with
  | 0 => simp at hv hz; subst hv hz; exact ha
  | i + 1 => simp at hv)
theorem app3 {D : Dn} {t : Nat} (ht : 100 ≤ t) {a b c : Value} {x y u : Int} (ha : Dv D a x) (hb : Dv D b y) (hc : Dv D c u) : Dv D (.iface t (.tuple #[a, b, c])) (D.int t [x, y, u]) := .app ht rfl (fun i v z hv hz => by
  match i with
  | 0 => simp at hv hz; subst hv hz; exact ha
  | 1 => simp at hv hz; subst hv hz; exact hb
  | 2 => simp at hv hz; subst hv hz; exact hc
  | i + 3 => simp at hv)
theorem dLo : ∀ k, Dv (D0 s bung dip xs O) (loV k) (loZ (IntKind.i64.wrap (dip - bung)) xs k)
  | 0 => .lit 0
  | k + 1 => .bin (t := 1) (by decide) (dLo k) (.bin (t := 3) (by decide) (.bin (t := 2) (by decide) (dSt (k + 1) 0) (dSt k 0)) (app2 (by decide) (.bin (t := 4) (by decide) (dSt k 1) (dSt (k + 1) 1)) dLv))
theorem dHi : ∀ k, Dv (D0 s bung dip xs O) (hiV k) (hiZ (IntKind.i64.wrap (dip - bung)) xs k)
  | 0 => .lit 0
  | k + 1 => .bin (t := 1) (by decide) (dHi k) (.bin (t := 3) (by decide) (.bin (t := 2) (by decide) (dSt (k + 1) 0) (dSt k 0)) (app2 (by decide) (.bin (t := 5) (by decide) (dSt k 2) (dSt (k + 1) 2)) dLv))
theorem rowV_get {N i : Nat} {v : Value} (h : (rowV N)[i]? = some v) : v = hN (i + 3) ∧ i < N * 3 := by
  unfold rowV at h
  rw [List.getElem?_map] at h
  by_cases hi : i < N * 3
  · rw [List.getElem?_range hi] at h
    exact ⟨(Option.some.inj h).symm, hi⟩
  · rw [List.getElem?_eq_none (by simp; omega)] at h; cases h
theorem dErr {N : Nat} (hl : xs.length = N * 3) : Dv (D0 s bung dip xs O) (errV N) (caskS s bung xs).2 :=
  .app (t := 121) (xs := bung :: xs) (by decide) (by simp [rowV, hl]) (fun i v x hv hx => by
    cases i with
    | zero => simp at hv hx; subst hv hx; exact dBung
    | succ i =>
      obtain ⟨e, hi⟩ := rowV_get (by simpa using hv)
      subst e
      have hx : xs[i]? = some x := by simpa using hx
      refine .hole ?_
      show Value.int .i64 (xs.getD i 0) = _
      rw [List.getD_eq_getElem?_getD, hx]
      rfl)
theorem dDipE : Dv (D0 s bung dip xs O) dipV (firstL [0, numE dip 0 (IntKind.i64.wrap (2 * bung))]) :=
  app2 (t := 104) (by decide) (.lit 0) (app3 (t := 103) (by decide) dDip (.lit 0) (.bin (t := 3) (by decide) (.lit 2) dBung))
theorem okV {N : Nat} {c : Bool} (hl : xs.length = N * 3) (h1 : (caskS s bung xs).2 = 0) (h2 : cmpN 0 (firstL [0, numE dip 0 (IntKind.i64.wrap (2 * bung))]) 0 = c) :
    ∀ f ∈ factsV N c, ∃ x y, Dv (D0 s bung dip xs O) f.2.1 x ∧ Dv (D0 s bung dip xs O) f.2.2.1 y ∧ cmpN f.1 x y = f.2.2.2 := by
  intro f hf
  simp only [factsV, List.mem_cons, List.not_mem_nil, or_false] at hf
  rcases hf with rfl | rfl
  · exact ⟨_, 0, dErr hl, .lit 0, by rw [h1]; rfl⟩
  · exact ⟨_, 0, dDipE, .lit 0, h2⟩
end
end Sy
end Go.Proofs.Ytpfhfphcmomfdaa
