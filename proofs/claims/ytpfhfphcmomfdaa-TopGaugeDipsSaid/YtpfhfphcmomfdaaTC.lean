/- The volumes of a right cask at several levels, as symbols: common to the laws that take more than one. -/
import Derived.Test.YtpfhfphcmomfdaaRW
import Derived.Test.YtpfhfphcmomfdaaRW
import Derived.Test.YtpfhfphcmomfdaaMA
set_option linter.unusedVariables false
set_option linter.unusedSimpArgs false
namespace Go.Proofs.Ytpfhfphcmomfdaa
open Go.RowKit
namespace Sy
open Go.RowKit

def dipW (d : Value) : Value := .iface 104 (.tuple #[.int .i64 0, .iface 103 (.tuple #[d, .int .i64 0, topV])])
def loW (lv : Value) : Nat → Value
  | 0 => .int .i64 0
  | k + 1 => .iface 1 (.tuple #[loW lv k, .iface 3 (.tuple #[.iface 2 (.tuple #[hSt (k + 1) 0, hSt k 0]), .iface 101 (.tuple #[.iface 4 (.tuple #[hSt k 1, hSt (k + 1) 1]), lv])])])
def hiW (lv : Value) : Nat → Value
  | 0 => .int .i64 0
  | k + 1 => .iface 1 (.tuple #[hiW lv k, .iface 3 (.tuple #[.iface 2 (.tuple #[hSt (k + 1) 0, hSt k 0]), .iface 102 (.tuple #[.iface 5 (.tuple #[hSt k 2, hSt (k + 1) 2]), lv])])])
def fLo (lv : Value) (N : Nat) : Value := .iface 105 (.tuple #[loW lv (N - 1)])
def fHi (lv : Value) (N : Nat) : Value := .iface 106 (.tuple #[hiW lv (N - 1)])
def numsT : List NumSp := [(36, 103, 3, []), (56, 105, 1, [100000]), (57, 106, 1, [100000])]
theorem ok_numsT {P : Pg} (hp : P.prog = Try.prog) {s : ByteArray} {hole : Nat → Value} {O : Obj → Prop} (hd : P.den = denG s hole O) : ∀ x ∈ numsT, NumOk P x := by
  intro x hx
  simp only [numsT, List.mem_cons, List.not_mem_nil, or_false] at hx
  rcases hx with rfl | rfl | rfl
  · refine ⟨by decide, fun xs w hl => ?_⟩
    match xs, hl with
    | [n, lo, hi], _ => rw [hp, hd]; exact numS n lo hi w
  · refine ⟨by decide, fun xs w hl => ?_⟩
    match xs, hl with
    | [n], _ => rw [hp, hd]; exact still_call (floorP_any n w)
  · refine ⟨by decide, fun xs w hl => ?_⟩
    match xs, hl with
    | [n], _ => rw [hp, hd]; exact still_call (ceilP_any n w)
section
variable {s : ByteArray} {bung dip : Int} {xs : List Int} {O : Obj → Prop} {N : Nat}
theorem dLvA (hc : CaskOk bung xs N) (h0 : 0 ≤ dip) (h1 : dip ≤ 2 * bung) : Dv (D0 s bung dip xs O) lvV (dip - bung) := by
  have h8 := hc.hi
  have h := dLv (s := s) (bung := bung) (dip := dip) (xs := xs) (O := O)
  rwa [show IntKind.i64.wrap (dip - bung) = dip - bung from IntWalk.i64_in _ (by omega)] at h
theorem dDipW (hc : CaskOk bung xs N) {d : Value} {z : Int} (hd : Dv (D0 s bung dip xs O) d z) (h0 : 0 ≤ z) (h1 : z ≤ 2 * bung) : Dv (D0 s bung dip xs O) (dipW d) 0 := by
  have h : Dv (D0 s bung dip xs O) (dipW d) (firstL [0, numE z 0 (2 * bung)]) := app2 (t := 104) (by decide) (.lit 0) (app3 (t := 103) (by decide) hd (.lit 0) (dTopV hc))
  rw [firstL_cons0 rfl, firstL_cons0 (numE_yes h0 h1)] at h
  exact h
theorem dLoW {lv : Value} {L : Int} (h : Dv (D0 s bung dip xs O) lv L) : ∀ k, Dv (D0 s bung dip xs O) (loW lv k) (loZ L xs k)
  | 0 => .lit 0
  | k + 1 => .bin (t := 1) (by decide) (dLoW h k) (.bin (t := 3) (by decide) (.bin (t := 2) (by decide) (dSt (k + 1) 0) (dSt k 0)) (app2 (by decide) (.bin (t := 4) (by decide) (dSt k 1) (dSt (k + 1) 1)) h))
theorem dHiW {lv : Value} {L : Int} (h : Dv (D0 s bung dip xs O) lv L) : ∀ k, Dv (D0 s bung dip xs O) (hiW lv k) (hiZ L xs k)
  | 0 => .lit 0
  | k + 1 => .bin (t := 1) (by decide) (dHiW h k) (.bin (t := 3) (by decide) (.bin (t := 2) (by decide) (dSt (k + 1) 0) (dSt k 0)) (app2 (by decide) (.bin (t := 5) (by decide) (dSt k 2) (dSt (k + 1) 2)) h))
theorem dFLo {lv : Value} {L : Int} (h : Dv (D0 s bung dip xs O) lv L) : Dv (D0 s bung dip xs O) (fLo lv N) (floorP (loZ L xs (N - 1))) := app1 (t := 105) (by decide) (dLoW h (N - 1))
theorem dFHi {lv : Value} {L : Int} (h : Dv (D0 s bung dip xs O) lv L) : Dv (D0 s bung dip xs O) (fHi lv N) (ceilP (hiZ L xs (N - 1))) := app1 (t := 106) (by decide) (dHiW h (N - 1))
theorem ends_bd {bung : Int} {xs : List Int} {N : Nat} (hc : CaskOk bung xs N) (L : Int) : (0 ≤ floorP (loZ L xs (N - 1)) ∧ floorP (loZ L xs (N - 1)) ≤ 1000000) ∧ (0 ≤ ceilP (hiZ L xs (N - 1)) ∧ ceilP (hiZ L xs (N - 1)) ≤ 1000000) := by
  have h2 := hc.two
  have h12 := hc.twelve
  obtain ⟨⟨e1, e2⟩, p, q⟩ := sums_bd (L := L) hc (N - 1) (by omega)
  rw [e1, e2, floorP_eq (by omega) (by omega), ceilP_eq (by omega) (by omega)]
  omega
end
end Sy
end Go.Proofs.Ytpfhfphcmomfdaa
