/- Measurements, and the wines that are followed through them, as plain functions. -/
import Derived.Test.YtbijhcoloajjaaaS1
import Derived.Test.YtbijhcoloajjaaaF13
namespace Go.Proofs.Ytbijhcoloajjaaa
open Go.RowKit

structure Ms where
  (d v0 v1 s0 s1 c0 c1 : Int)
def Ms.at (m : Ms) : Nat → Int
  | 0 => m.d | 1 => m.v0 | 2 => m.v1 | 3 => m.s0 | 4 => m.s1 | 5 => m.c0 | _ => m.c1
def Ms.x (m : Ms) : Wn := ⟨m.v0, m.v1, m.s0, m.s1, m.c0, m.c1⟩
def Ms.err (m : Ms) : Int := measE m.d m.v0 m.v1 m.s0 m.s1 m.c0 m.c1
/-- the error of the k-th measurement -/
def mesS (f : Nat → Ms) (k : Nat) : Int := if k = 0 then (f k).err else firstE (f k).err (betE (f (k - 1)).d (f k).d) 0
def mesN (f : Nat → Ms) : Nat → Nat → Int
  | 0, _ => 0
  | m + 1, k => if mesS f k = 0 then mesN f m (k + 1) else k
def mesE (f : Nat → Ms) : Nat → Nat → Int
  | 0, _ => 0
  | m + 1, k => if mesS f k = 0 then mesE f m (k + 1) else mesS f k
theorem mes_step (f : Nat → Ms) (n k : Nat) (hk : k < n) (d : Int) (hd : mesS f k = d) :
    mesN f (n - k) k = (if d = 0 then mesN f (n - (k + 1)) (k + 1) else k) ∧ mesE f (n - k) k = (if d = 0 then mesE f (n - (k + 1)) (k + 1) else d) := by
  obtain ⟨m, hm⟩ : ∃ m, n - k = m + 1 := ⟨n - k - 1, by omega⟩
  have hm2 : n - (k + 1) = m := by omega
  subst hd
  rw [hm, hm2]
  exact ⟨rfl, rfl⟩
/-- the error of a list of measurements, ahead of all of them -/
def mes0 (n : Nat) : Int := firstE (unlE (decide (0 < n)) 10) (unlE (decide ((n : Int) ≤ 40)) 8) 0
end Go.Proofs.Ytbijhcoloajjaaa
