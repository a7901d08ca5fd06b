/- The wines that are followed through measurements, as plain functions. -/
import Derived.Test.YtbijhcoloajjaaaW1b
import Derived.Test.YtbijhcoloajjaaaW2
import Derived.Test.YtbijhcoloajjaaaU2
namespace Go.Proofs.Ytbijhcoloajjaaa
open Go.RowKit

def Wn.com (x y : Wn) : Wn := ⟨mx x.v0 y.v0, mn x.v1 y.v1, mx x.s0 y.s0, mn x.s1 y.s1, mx x.c0 y.c0, mn x.c1 y.c1⟩
def Wn.isB (x : Wn) : Bool := decide (x.v0 ≤ x.v1) && (decide (x.s0 ≤ x.s1) && decide (x.c0 ≤ x.c1))
def Wn.at (x : Wn) : Nat → Int
  | 0 => x.v0 | 1 => x.v1 | 2 => x.s0 | 3 => x.s1 | 4 => x.c0 | _ => x.c1
def Wn.cells (x : Wn) : List Value := [.int .i64 x.v0, .int .i64 x.v1, .int .i64 x.s0, .int .i64 x.s1, .int .i64 x.c0, .int .i64 x.c1]
theorem com_right {x y : Wn} (hy : y.err = 0) (h : (x.com y).isB = true) : (x.com y).err = 0 := by
  obtain ⟨⟨R0, R1, R2⟩, ⟨T0, T1, T2⟩, ⟨Z0, Z1, Z2⟩⟩ := wineE_zero.1 hy
  simp only [Wn.isB, Bool.and_eq_true, decide_eq_true_eq] at h
  obtain ⟨k0, k1, k2⟩ := h
  have l0 : ∀ a b : Int, b ≤ mx a b := by intro a b; unfold mx; split <;> omega
  have l1 : ∀ a b : Int, mn a b ≤ b := by intro a b; unfold mn; split <;> omega
  have a0 := l0 x.v0 y.v0
  have a1 := l1 x.v1 y.v1
  have a2 := l0 x.s0 y.s0
  have a3 := l1 x.s1 y.s1
  have a4 := l0 x.c0 y.c0
  have a5 := l1 x.c1 y.c1
  refine wineE_zero.2 ⟨⟨?_, k0, ?_⟩, ⟨?_, k1, ?_⟩, ⟨?_, k2, ?_⟩⟩ <;> (dsimp only [Wn.com] at *; omega)
/-- what (checked).after tells of a right wine -/
def stW (x : Wn) (r : Sp) : Wn := if x.large r then .zero else x.behind r
def stE (x : Wn) (r : Sp) : Int := if x.large r then 8 else 0
theorem chk_any (x : Wn) (r : Sp) (hx : x.err = 0) (hr : rateE r.a0 r.a1 r.g0 r.g1 = 0) (d0 : 0 ≤ r.d) (d1 : r.d ≤ 366) (w : World) :
    Calls Try.prog 53 #[x.val, .agg #[.int .i64 r.a0, .int .i64 r.a1, .int .i64 r.g0, .int .i64 r.g1], .int .i64 r.d] w fun e w' => e = .returned (.tuple #[(stW x r).val, .int .i64 (stE x r)]) ∧ Below w.heap.size w w' := by
  obtain ⟨⟨R0, R1, R2⟩, ⟨T0, T1, T2⟩, ⟨Z0, Z1, Z2⟩⟩ := wineE_zero.1 hx
  obtain ⟨⟨A0, A1, A2⟩, ⟨G0, G1, G2⟩⟩ := rateE_zero.1 hr
  have := chkAfter_any x.v0 x.v1 x.s0 x.s1 x.c0 x.c1 r.a0 r.a1 r.g0 r.g1 r.d w (by omega) (by omega) (by omega) (by omega) (by omega) (by omega) (by omega) (by omega) (by omega) (by omega) (by omega) (by omega) (by omega) (by omega) (by omega) (by omega) (by omega) (by omega) (by omega) (by omega) (by omega) (by omega)
  have e : aftR x.v0 x.v1 x.s0 x.s1 x.c0 x.c1 r.a0 r.a1 r.g0 r.g1 r.d = .tuple #[(stW x r).val, .int .i64 (stE x r)] := by
    rw [aftR, stW, stE]
    by_cases k1 : x.large r
    · have k2 : 10000 < ce (x.s1 * lft r.g0 r.d) (lft r.a1 r.d) ∨ 100000 < ce (x.c1 * 1000000) (lft r.a1 r.d) := k1
      rw [if_pos k2, if_pos k1, if_pos k1]; rfl
    · have k2 : ¬ (10000 < ce (x.s1 * lft r.g0 r.d) (lft r.a1 r.d) ∨ 100000 < ce (x.c1 * 1000000) (lft r.a1 r.d)) := k1
      rw [if_neg k2, if_neg k1, if_neg k1]; rfl
  rw [e] at this
  exact this
/-- the rate, over the days between the measurements k - 1 and k -/
def folS (r : Sp) (f : Nat → Ms) (k : Nat) : Sp := ⟨r.a0, r.a1, r.g0, r.g1, (f k).d - (f (k - 1)).d⟩
def folX (r : Sp) (f : Nat → Ms) (k : Nat) (x : Wn) : Wn := (stW x (folS r f k)).com (f k).x
def folD (r : Sp) (f : Nat → Ms) (k : Nat) (x : Wn) : Int := if stE x (folS r f k) ≠ 0 then stE x (folS r f k) else if (folX r f k x).isB = true then 0 else 13
def folL (r : Sp) (f : Nat → Ms) : Nat → Nat → Wn → List Wn
  | 0, _, _ => []
  | m + 1, k, x => if folD r f k x = 0 then folX r f k x :: folL r f m (k + 1) (folX r f k x) else []
def folN (r : Sp) (f : Nat → Ms) : Nat → Nat → Wn → Int
  | 0, _, _ => 0
  | m + 1, k, x => if folD r f k x = 0 then folN r f m (k + 1) (folX r f k x) else k
def folE (r : Sp) (f : Nat → Ms) : Nat → Nat → Wn → Int
  | 0, _, _ => 0
  | m + 1, k, x => if folD r f k x = 0 then folE r f m (k + 1) (folX r f k x) else folD r f k x
theorem fol_step (r : Sp) (f : Nat → Ms) (n k : Nat) (hk : k < n) (x z : Wn) (d : Int) (hz : folX r f k x = z) (hd : folD r f k x = d) :
    folL r f (n - k) k x = (if d = 0 then z :: folL r f (n - (k + 1)) (k + 1) z else []) ∧ folN r f (n - k) k x = (if d = 0 then folN r f (n - (k + 1)) (k + 1) z else k) ∧ folE r f (n - k) k x = (if d = 0 then folE r f (n - (k + 1)) (k + 1) z else d) := by
  obtain ⟨m, hm⟩ : ∃ m, n - k = m + 1 := ⟨n - k - 1, by omega⟩
  have hm2 : n - (k + 1) = m := by omega
  subst hz; subst hd
  rw [hm, hm2]
  exact ⟨rfl, rfl, rfl⟩
/-- the whole: the error, its number, the wines -/
def fol0 (r : Sp) (f : Nat → Ms) (n : Nat) : Int := if rateE r.a0 r.a1 r.g0 r.g1 ≠ 0 then rateE r.a0 r.a1 r.g0 r.g1 else if mes0 n ≠ 0 then mes0 n else mesE f n 0
def FE (r : Sp) (f : Nat → Ms) (n : Nat) : Int := if fol0 r f n ≠ 0 then fol0 r f n else folE r f (n - 1) 1 (f 0).x
def FN (r : Sp) (f : Nat → Ms) (n : Nat) : Int := if rateE r.a0 r.a1 r.g0 r.g1 ≠ 0 then 0 else if mes0 n ≠ 0 then 0 else if mesE f n 0 ≠ 0 then mesN f n 0 else folN r f (n - 1) 1 (f 0).x
def FL (r : Sp) (f : Nat → Ms) (n : Nat) : List Wn := if FE r f n = 0 then (f 0).x :: folL r f (n - 1) 1 (f 0).x else []
theorem mes_all {f : Nat → Ms} : ∀ (m k : Nat), mesE f m k = 0 → ∀ j, k ≤ j → j < k + m → mesS f j = 0
  | 0, k, _, j, h1, h2 => by omega
  | m + 1, k, h, j, h1, h2 => by
    unfold mesE at h
    by_cases hz : mesS f k = 0
    · rw [if_pos hz] at h
      by_cases e : j = k
      · rw [e]; exact hz
      · exact mes_all m (k + 1) h j (by omega) (by omega)
    · rw [if_neg hz] at h; exact absurd h hz
theorem firstE_two {a b : Int} (h : firstE a b 0 = 0) : a = 0 ∧ b = 0 := by
  unfold firstE at h
  split at h <;> (try split at h) <;> simp_all
theorem measE_zero {d v0 v1 s0 s1 c0 c1 : Int} (h : measE d v0 v1 s0 s1 c0 c1 = 0) : (0 ≤ d ∧ d ≤ 100000) ∧ wineE v0 v1 s0 s1 c0 c1 = 0 := by
  obtain ⟨h1, h2⟩ := firstE_two h
  refine ⟨?_, h2⟩
  rw [numE_val] at h1
  unfold unlE inB at h1
  split at h1
  · rename_i hb; simp at hb; omega
  · omega
theorem betE_zero {da db : Int} (a0 : 0 ≤ da) (a1 : da ≤ 100000) (b0 : 0 ≤ db) (b1 : db ≤ 100000) (h : betE da db = 0) : da < db ∧ db - da ≤ 365 := by
  rw [betE_eq da db a0 a1 b0 b1] at h
  unfold betR at h
  split at h
  · omega
  · split at h <;> omega
/-- measurements without an error: each is right, and their days are those of a year -/
theorem mes_fine {f : Nat → Ms} {n : Nat} (h : mesE f n 0 = 0) (k : Nat) (hk : k < n) : (0 ≤ (f k).d ∧ (f k).d ≤ 100000) ∧ (f k).x.err = 0 ∧ (0 < k → 1 ≤ (f k).d - (f (k - 1)).d ∧ (f k).d - (f (k - 1)).d ≤ 365) := by
  have hs : ∀ j, j < n → (0 ≤ (f j).d ∧ (f j).d ≤ 100000) ∧ (f j).x.err = 0 := fun j hj => by
    have h1 := mes_all n 0 h j (by omega) (by omega)
    unfold mesS at h1
    by_cases e : j = 0
    · rw [if_pos e] at h1; exact measE_zero h1
    · rw [if_neg e] at h1; exact measE_zero (firstE_two h1).1
  refine ⟨(hs k hk).1, (hs k hk).2, fun h0 => ?_⟩
  have h1 := mes_all n 0 h k (by omega) (by omega)
  unfold mesS at h1
  rw [if_neg (by omega)] at h1
  have h2 := (firstE_two h1).2
  have a := (hs k hk).1
  have b := (hs (k - 1) (by omega)).1
  have := betE_zero b.1 b.2 a.1 a.2 h2
  omega
end Go.Proofs.Ytbijhcoloajjaaa
