/- Wines, spells, and the wine behind spells, as plain functions. -/
import Derived.Test.YtbijhcoloajjaaaE3
import Derived.Test.YtbijhcoloajjaaaT3
namespace Go.Proofs.Ytbijhcoloajjaaa
open Go.RowKit

structure Wn where
  (v0 v1 s0 s1 c0 c1 : Int)
structure Sp where
  (a0 a1 g0 g1 d : Int)
def Wn.zero : Wn := ⟨0, 0, 0, 0, 0, 0⟩
def Wn.val (x : Wn) : Value := .agg #[.int .i64 x.v0, .int .i64 x.v1, .int .i64 x.s0, .int .i64 x.s1, .int .i64 x.c0, .int .i64 x.c1]
def Wn.err (x : Wn) : Int := wineE x.v0 x.v1 x.s0 x.s1 x.c0 x.c1
def Wn.large (x : Wn) (r : Sp) : Prop := 10000 < ce (x.s1 * lft r.g0 r.d) (lft r.a1 r.d) ∨ 100000 < ce (x.c1 * 1000000) (lft r.a1 r.d)
instance (x : Wn) (r : Sp) : Decidable (x.large r) := by unfold Wn.large; infer_instance
def Wn.behind (x : Wn) (r : Sp) : Wn := ⟨fl (x.v0 * lft r.a1 r.d) 1000000, ce (x.v1 * lft r.a0 r.d) 1000000, fl (x.s0 * lft r.g1 r.d) (lft r.a0 r.d), ce (x.s1 * lft r.g0 r.d) (lft r.a1 r.d), fl (x.c0 * 1000000) (lft r.a0 r.d), ce (x.c1 * 1000000) (lft r.a1 r.d)⟩
def Wn.task (x : Wn) (r : Sp) : Int := taskE x.v0 x.v1 x.s0 x.s1 x.c0 x.c1 r.a0 r.a1 r.g0 r.g1 r.d
/-- the error of a wine behind a spell, and the wine -/
def aftErr (x : Wn) (r : Sp) : Int := if (x.task r != 0) = true then x.task r else if x.large r then 8 else 0
def aftWin (x : Wn) (r : Sp) : Wn := if (x.task r != 0) = true then .zero else if x.large r then .zero else x.behind r
theorem aft_val (x : Wn) (r : Sp) : aftF x.v0 x.v1 x.s0 x.s1 x.c0 x.c1 r.a0 r.a1 r.g0 r.g1 r.d = .tuple #[(aftWin x r).val, .int .i64 (aftErr x r)] := by
  by_cases h1 : (x.task r != 0) = true
  · have h2 : (taskE x.v0 x.v1 x.s0 x.s1 x.c0 x.c1 r.a0 r.a1 r.g0 r.g1 r.d != 0) = true := h1
    rw [aftF, if_pos h2, aftWin, aftErr, if_pos h1, if_pos h1]; rfl
  have h2 : ¬ (taskE x.v0 x.v1 x.s0 x.s1 x.c0 x.c1 r.a0 r.a1 r.g0 r.g1 r.d != 0) = true := h1
  rw [aftF, if_neg h2, aftWin, aftErr, if_neg h1, if_neg h1, aftR]
  by_cases k1 : x.large r
  · have k2 : 10000 < ce (x.s1 * lft r.g0 r.d) (lft r.a1 r.d) ∨ 100000 < ce (x.c1 * 1000000) (lft r.a1 r.d) := k1
    rw [if_pos k2, if_pos k1, if_pos k1]; rfl
  · have k2 : ¬ (10000 < ce (x.s1 * lft r.g0 r.d) (lft r.a1 r.d) ∨ 100000 < ce (x.c1 * 1000000) (lft r.a1 r.d)) := k1
    rw [if_neg k2, if_neg k1, if_neg k1]; rfl
/-- the contract of After, as a premise -/
def AftC : Prop := ∀ (x : Wn) (r : Sp) (w : World), Calls Try.prog 24 #[x.val, .agg #[.int .i64 r.a0, .int .i64 r.a1, .int .i64 r.g0, .int .i64 r.g1], .int .i64 r.d] w fun e w' => e = .returned (.tuple #[(aftWin x r).val, .int .i64 (aftErr x r)]) ∧ Below w.heap.size w w'
/-- the wine behind m spells from the k-th one on: the wine, the number, the error -/
def overW (f : Nat → Sp) : Nat → Nat → Wn → Wn
  | 0, _, x => x
  | m + 1, k, x => if aftErr x (f k) = 0 then overW f m (k + 1) (aftWin x (f k)) else .zero
def overN (f : Nat → Sp) : Nat → Nat → Wn → Int
  | 0, _, _ => 0
  | m + 1, k, x => if aftErr x (f k) = 0 then overN f m (k + 1) (aftWin x (f k)) else k
def overE (f : Nat → Sp) : Nat → Nat → Wn → Int
  | 0, _, _ => 0
  | m + 1, k, x => if aftErr x (f k) = 0 then overE f m (k + 1) (aftWin x (f k)) else aftErr x (f k)
end Go.Proofs.Ytbijhcoloajjaaa
