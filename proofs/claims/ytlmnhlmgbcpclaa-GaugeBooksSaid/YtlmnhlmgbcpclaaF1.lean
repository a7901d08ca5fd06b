/- flor's own small functions: unless, numberError, first. -/
import Derived.Test.YtlmnhlmgbcpclaaR2
import Derived.LoopTactic
import Derived.StillTailTactics
import Derived.Lib.Hide
namespace Go.Proofs.Ytlmnhlmgbcpclaa
open Go.RowKit

def unlE (b : Bool) (e : Int) : Int := if b then 0 else e
theorem unless_any (b : Bool) (e : Int) (w : World) :
    Calls Try.prog 38 #[.bool b, .int .i64 e] w fun x w' => x = .returned (.int .i64 (unlE b e)) ∧ w = w' := by
  cases b
  all_goals
    go_enter Try.func38, Try.ntmps38
    go_wp2
    go_ret
    exact ⟨rfl, rfl⟩
def numE (n lo hi : Int) : Int := if inB n lo hi then 0 else 2
theorem numE_val (n lo hi : Int) : numE n lo hi = unlE (inB n lo hi) 2 := rfl
theorem number_any (n lo hi : Int) (w : World) :
    Calls Try.prog 68 #[.int .i64 n, .int .i64 lo, .int .i64 hi] w fun x w' => x = .returned (.int .i64 (numE n lo hi)) ∧ w = w' := by
  have H := Lib.hid (fun (b : Bool) (w : World) => unless_any b 2 w)
  by_cases h1 : lo ≤ n
  · by_cases h2 : n ≤ hi
    · go_enter Try.func68, Try.ntmps68
      go_wp2_with (go_at_call 38; refine (H.out _ _).mono ?_; rintro e w' ⟨rfl, rfl⟩)
      go_ret
      exact ⟨by simp [numE, unlE, inB, h1, h2], rfl⟩
    · go_enter Try.func68, Try.ntmps68
      go_wp2_with (go_at_call 38; refine (H.out _ _).mono ?_; rintro e w' ⟨rfl, rfl⟩)
      go_ret
      exact ⟨by simp [numE, unlE, inB, h1, h2], rfl⟩
  · go_enter Try.func68, Try.ntmps68
    go_wp2_with (go_at_call 38; refine (H.out _ _).mono ?_; rintro e w' ⟨rfl, rfl⟩)
    go_ret
    exact ⟨by have e : inB n lo hi = false := inB_no.2 (.inl (by omega)); simp [numE, unlE, e], rfl⟩

def firstL : List Int → Int
  | [] => 0
  | x :: l => if x ≠ 0 then x else firstL l
theorem firstL_at (es : List Int) (k : Nat) (h : k < es.length) : firstL (es.drop k) = if es.getD k 0 ≠ 0 then es.getD k 0 else firstL (es.drop (k + 1)) := by
  rw [List.drop_eq_getElem_cons h]
  simp [firstL, List.getD, h]
theorem first_list (es : List Int) (b off : Nat) (w : World) (hl : es.length ≤ 100) (hc : ∀ j, j < es.length → w.cell? ⟨b, off + j, none⟩ = some (.int .i64 (es.getD j 0))) :
    Calls Try.prog 36 #[.slice (some ⟨b, off, none⟩) es.length es.length] w fun x w' => x = .returned (.int .i64 (firstL es)) ∧ w = w' := by
  have HC := Lib.hid hc
  clear hc
  go_enter Try.func36, Try.ntmps36
  go_wp2
  go_loop [7] (fun i => ∃ k : Nat, k ≤ es.length ∧ i = .int .i64 k ∧ firstL es = firstL (es.drop k)) (fun i => es.length - (intOf i).toNat)
  case atStart => exact ⟨0, Nat.zero_le _, rfl, rfl⟩
  case round =>
    obtain ⟨k, hk, rfl, hE⟩ := hrel
    have HE := Lib.hid hE
    clear hE
    by_cases hlt : k < es.length
    · have hcell := HC.out k hlt
      have HA := Lib.hid (firstL_at es k hlt)
      by_cases hz : es.getD k 0 = 0
      · have HZ := Lib.hid hz
        rw [hz] at hcell
        clear hz
        go_wp2
        go_round
        case rel => exact ⟨k + 1, by omega, by go_num, by rw [HE.out, HA.out, if_neg (by rw [HZ.out]; simp)]⟩
        case measure => simp [intOf]; omega
      · obtain ⟨x, hx⟩ : ∃ x, es.getD k 0 = x := ⟨_, rfl⟩
        rw [hx] at hz hcell
        have HX := Lib.hid hx
        clear hx
        have hb : (x == 0) = false := by simpa using hz
        go_wp2
        go_ret
        exact ⟨ret_int (by rw [HE.out, HA.out, HX.out, if_pos hz]), rfl⟩
    · go_wp2
      go_ret
      refine ⟨ret_int ?_, rfl⟩
      rw [HE.out, List.drop_of_length_le (by omega)]; rfl
theorem first2_any (a b : Int) (p : Nat) (w : World) (h0 : w.cell? ⟨p, 0, none⟩ = some (.int .i64 a)) (h1 : w.cell? ⟨p, 1, none⟩ = some (.int .i64 b)) :
    Calls Try.prog 36 #[.slice (some ⟨p, 0, none⟩) 2 2] w fun x w' => x = .returned (.int .i64 (firstE a b 0)) ∧ w = w' := by
  have := first_list [a, b] p 0 w (by simp) (by intro j hj; match j, hj with | 0, _ => exact h0 | 1, _ => exact h1)
  exact this
theorem first3_any (a b c : Int) (p : Nat) (w : World) (h0 : w.cell? ⟨p, 0, none⟩ = some (.int .i64 a)) (h1 : w.cell? ⟨p, 1, none⟩ = some (.int .i64 b)) (h2 : w.cell? ⟨p, 2, none⟩ = some (.int .i64 c)) :
    Calls Try.prog 36 #[.slice (some ⟨p, 0, none⟩) 3 3] w fun x w' => x = .returned (.int .i64 (firstE a b c)) ∧ w = w' := by
  have := first_list [a, b, c] p 0 w (by simp) (by intro j hj; match j, hj with | 0, _ => exact h0 | 1, _ => exact h1 | 2, _ => exact h2)
  have e : firstL [a, b, c] = firstE a b c := by unfold firstE; simp only [firstL]; split <;> (try rfl); split <;> (try rfl); simp_all
  rw [e] at this
  exact this
theorem newCell {W : World} {cs : Array Value} {t : TypeId} (i : Nat) (v : Value) (hv : cs[i]? = some v) : (W.alloc (.cells cs t)).cell? ⟨W.heap.size, i, none⟩ = some v := by
  simp [World.cell?_alloc_new, hv]
theorem newCellD {W : World} {cs : Array Value} {t : TypeId} (i : Nat) (v : Value) (hv : cs[i]? = some v) : (W.alloc (.cells cs t)).drew.cell? ⟨W.heap.size, i, none⟩ = some v := newCell i v hv
end Go.Proofs.Ytlmnhlmgbcpclaa
