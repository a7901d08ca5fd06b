/- Lists of numbers that begin with a cask's stations. -/
import Derived.Test.YtpfhfphcmomfdaaDZ
set_option linter.unusedVariables false
set_option linter.unusedSimpArgs false
namespace Go.Proofs.Ytpfhfphcmomfdaa
open Go.RowKit
namespace Sy
open Go.RowKit

/-- a list of numbers that begins with the stations -/
def Ag (zs xs : List Int) (N : Nat) : Prop := ∀ i, i < N * 3 → zs.getD i 0 = xs.getD i 0
theorem Ag.rfl' (xs : List Int) (N : Nat) : Ag xs xs N := fun _ _ => rfl
theorem Ag.app {xs ys : List Int} {N : Nat} (hl : xs.length = N * 3) : Ag (xs ++ ys) xs N := fun i hi => by
  rw [List.getD_eq_getElem?_getD, List.getD_eq_getElem?_getD, List.getElem?_append_left (by omega)]
theorem rowV_denG {s : ByteArray} {bung dip : Int} {zs xs : List Int} {O : Obj → Prop} {N : Nat} (hl : xs.length = N * 3) (hag : Ag zs xs N) : ∀ (i : Nat) (v : Value) (x : Int), (rowV N)[i]? = some v → xs[i]? = some x → Dv (D0 s bung dip zs O) v x := fun i v x hv hx => by
  obtain ⟨e, hi⟩ := rowV_get hv
  subst e
  refine .hole ?_
  show Value.int .i64 (zs.getD i 0) = _
  rw [hag i hi, List.getD_eq_getElem?_getD, hx]
  rfl
theorem loZ_ag {zs xs : List Int} {N : Nat} (h : Ag zs xs N) (L : Int) : ∀ k, k < N → loZ L zs k = loZ L xs k ∧ hiZ L zs k = hiZ L xs k
  | 0, _ => ⟨rfl, rfl⟩
  | k + 1, hk => by
    obtain ⟨h1, h2⟩ := loZ_ag h L k (by omega)
    unfold loZ hiZ
    rw [h1, h2, h ((k + 1) * 3 + 0) (by omega), h (k * 3 + 0) (by omega), h (k * 3 + 1) (by omega), h ((k + 1) * 3 + 1) (by omega), h (k * 3 + 2) (by omega), h ((k + 1) * 3 + 2) (by omega)]
    exact ⟨rfl, rfl⟩
theorem CaskOk.ag {bung : Int} {zs xs : List Int} {N : Nat} (h : Ag zs xs N) (hc : CaskOk bung xs N) : CaskOk bung zs N :=
  ⟨hc.two, hc.twelve, hc.lo, hc.hi, fun i hi => by rw [h (i * 3) (by omega), h (i * 3 + 1) (by omega), h (i * 3 + 2) (by omega)]; exact hc.st i hi, fun i h0 hi => by rw [h ((i - 1) * 3) (by omega), h (i * 3) (by omega)]; exact hc.up i h0 hi⟩
theorem dErrG {s : ByteArray} {bung dip : Int} {zs xs : List Int} {O : Obj → Prop} {N : Nat} (hl : xs.length = N * 3) (hag : Ag zs xs N) : Dv (D0 s bung dip zs O) (errV N) (caskS s bung xs).2 :=
  .app (t := 121) (xs := bung :: xs) (by decide) (by simp [rowV, hl]) (fun i v x hv hx => by
    cases i with
    | zero => simp at hv hx; subst hv hx; exact dBung
    | succ i => exact rowV_denG hl hag i v x (by simpa using hv) (by simpa using hx))
end Sy
end Go.Proofs.Ytpfhfphcmomfdaa
