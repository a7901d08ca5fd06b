/- Stations of a cask: their errors, and the first wrong one. -/
import Derived.Test.YtnonbkepnfpboaaJ3
import Derived.Test.YtnonbkepnfpboaaJ6
import Derived.Test.YtnonbkepnfpboaaJ7
namespace Go.Proofs.Ytnonbkepnfpboaa
open Go.RowKit

theorem first2L_any (a0 a1 : Int) (p : Nat) (w : World) (h0 : w.cell? ⟨p, 0, none⟩ = some (.int .i64 a0)) (h1 : w.cell? ⟨p, 1, none⟩ = some (.int .i64 a1)) :
    Calls Try.prog 14 #[.slice (some ⟨p, 0, none⟩) 2 2] w fun x w' => x = .returned (.int .i64 (firstL [a0, a1])) ∧ w = w' :=
  first_list [a0, a1] p 0 w (by simp) (by intro j hj; match j, hj with | 0, _ => exact h0 | 1, _ => exact h1)
theorem first3L_any (a0 a1 a2 : Int) (p : Nat) (w : World) (h0 : w.cell? ⟨p, 0, none⟩ = some (.int .i64 a0)) (h1 : w.cell? ⟨p, 1, none⟩ = some (.int .i64 a1)) (h2 : w.cell? ⟨p, 2, none⟩ = some (.int .i64 a2)) :
    Calls Try.prog 14 #[.slice (some ⟨p, 0, none⟩) 3 3] w fun x w' => x = .returned (.int .i64 (firstL [a0, a1, a2])) ∧ w = w' :=
  first_list [a0, a1, a2] p 0 w (by simp) (by intro j hj; match j, hj with | 0, _ => exact h0 | 1, _ => exact h1 | 2, _ => exact h2)
theorem first4L_any (a0 a1 a2 a3 : Int) (p : Nat) (w : World) (h0 : w.cell? ⟨p, 0, none⟩ = some (.int .i64 a0)) (h1 : w.cell? ⟨p, 1, none⟩ = some (.int .i64 a1)) (h2 : w.cell? ⟨p, 2, none⟩ = some (.int .i64 a2)) (h3 : w.cell? ⟨p, 3, none⟩ = some (.int .i64 a3)) :
    Calls Try.prog 14 #[.slice (some ⟨p, 0, none⟩) 4 4] w fun x w' => x = .returned (.int .i64 (firstL [a0, a1, a2, a3])) ∧ w = w' :=
  first_list [a0, a1, a2, a3] p 0 w (by simp) (by intro j hj; match j, hj with | 0, _ => exact h0 | 1, _ => exact h1 | 2, _ => exact h2 | 3, _ => exact h3)
theorem first5L_any (a0 a1 a2 a3 a4 : Int) (p : Nat) (w : World) (h0 : w.cell? ⟨p, 0, none⟩ = some (.int .i64 a0)) (h1 : w.cell? ⟨p, 1, none⟩ = some (.int .i64 a1)) (h2 : w.cell? ⟨p, 2, none⟩ = some (.int .i64 a2)) (h3 : w.cell? ⟨p, 3, none⟩ = some (.int .i64 a3)) (h4 : w.cell? ⟨p, 4, none⟩ = some (.int .i64 a4)) :
    Calls Try.prog 14 #[.slice (some ⟨p, 0, none⟩) 5 5] w fun x w' => x = .returned (.int .i64 (firstL [a0, a1, a2, a3, a4])) ∧ w = w' :=
  first_list [a0, a1, a2, a3, a4] p 0 w (by simp) (by intro j hj; match j, hj with | 0, _ => exact h0 | 1, _ => exact h1 | 2, _ => exact h2 | 3, _ => exact h3 | 4, _ => exact h4)
theorem numS (n lo hi : Int) (w : World) : Calls Try.prog 22 #[.int .i64 n, .int .i64 lo, .int .i64 hi] w fun e w' => e = .returned (.int .i64 (numE n lo hi)) ∧ Below w.heap.size w w' := still_call (number_any n lo hi w)
theorem unlS (b : Bool) (e : Int) (w : World) : Calls Try.prog 27 #[.bool b, .int .i64 e] w fun x w' => x = .returned (.int .i64 (unlE b e)) ∧ Below w.heap.size w w' := still_call (unless_any b e w)
end Go.Proofs.Ytnonbkepnfpboaa
