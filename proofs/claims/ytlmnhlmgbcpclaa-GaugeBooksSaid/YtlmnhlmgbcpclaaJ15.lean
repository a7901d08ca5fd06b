/- The net of a cask: the program's and the reference's. -/
import Derived.Test.YtlmnhlmgbcpclaaJ14
namespace Go.Proofs.Ytlmnhlmgbcpclaa
open Go.RowKit

def midN (p q : Bool) (t n : Int) : Int :=
  match p, q with
  | true, true => wrap64 (wrap64 (n + t) - t)
  | true, false => wrap64 (n + t)
  | false, true => wrap64 (n - t)
  | false, false => n
def mvN (y : Mw) (c : ByteArray) (lo hi n : Int) : Int :=
  if y.d ≤ lo then n else if hi < y.d then n else midN (y.b.toList == c.toList) (y.a.toList == c.toList) y.v n
def netF (x : Nat → Mw) (c : ByteArray) (lo hi : Int) : Nat → Nat → Int → Int
  | 0, _, z => z
  | m + 1, k, z => netF x c lo hi m (k + 1) (mvN (x k) c lo hi z)
theorem netF_step (x : Nat → Mw) (c : ByteArray) (lo hi : Int) (n k : Nat) (z : Int) (hk : k < n) : netF x c lo hi (n - k) k z = netF x c lo hi (n - (k + 1)) (k + 1) (mvN (x k) c lo hi z) := by
  obtain ⟨m, hm⟩ : ∃ m, n - k = m + 1 := ⟨n - k - 1, by omega⟩
  rw [hm, show n - (k + 1) = m by omega]
  rfl
set_option linter.unusedVariables false in
set_option linter.unusedSimpArgs false in
set_option maxRecDepth 100000 in
set_option maxHeartbeats 4000000 in
theorem net_any (l0 l1 : Int) (sr : Option Addr) (nr cr gm om N cm : Nat) (x : Nat → Mw) (c : ByteArray) (lo hi : Int) (w : World) (hN : N ≤ 100000) (hx : ∀ i j, i < N → j < 4 → w.cell? ⟨gm, om + i * 4 + j, none⟩ = some ((x i).at j)) :
    Calls Try.prog 48 #[.agg #[.int .i64 l0, .int .i64 l1, .slice sr nr cr, .slice (some ⟨gm, om, none⟩) N cm], .string c, .int .i64 lo, .int .i64 hi] w fun e w' => e = .returned (.int .i64 (netF x c lo hi N 0 0)) ∧ Below w.heap.size w w' := by
  have HX := Lib.hid hx
  clear hx
  go_enter Try.func48, Try.ntmps48
  go_upto_region 1 with fail
  obtain ⟨B0, hB0⟩ : ∃ B, w.heap.size = B := ⟨_, rfl⟩
  rw [hB0]
  refine nameWorld (fun w' => w'.cell? ⟨B0, 3, none⟩ = some (.slice (some ⟨gm, om, none⟩) N cm) ∧ Below B0 w w' ∧ B0 < w'.heap.size) ?_ (fun wc hc => ?_)
  · rw [← hB0]
    exact ⟨by go_cell, by go_grown, by go_grown⟩
  obtain ⟨c3, hbw, hlt0⟩ := hc
  rw [← hB0] at hbw
  go_wp2_with fail
  go_loopw [9, 16] (fun z i wr => ∃ (k : Nat) (v : Int), (k ≤ N ∧ z = .int .i64 v ∧ i = .int .i64 (k : Int)) ∧ Hid (netF x c lo hi N 0 0 = netF x c lo hi (N - k) k v) ∧ Below wc.heap.size wc wr)
    (fun _ i _ => N - (intOf i).toNat)
  case atStart => exact ⟨0, 0, ⟨Nat.zero_le _, rfl, rfl⟩, Lib.hid rfl, Below.refl _ _⟩
  case round =>
    obtain ⟨k, v, ⟨hk, rfl, rfl⟩, HI, hB⟩ := hrel
    have y3 : wr.cell? ⟨B0, 3, none⟩ = some (.slice (some ⟨gm, om, none⟩) N cm) := keepC hB c3
    have hsz : B0 < wr.heap.size := Nat.lt_of_lt_of_le hlt0 hB.size
    by_cases hlt : k < N
    · have hk1 : (k : Int) < (N : Int) := by omega
      have HS := Lib.hid (netF_step x c lo hi N k v hlt)
      have keep : ∀ {a : Addr} {u : Value}, w.cell? a = some u → wr.cell? a = some u := fun h => keepC hB (keepC hbw h)
      obtain ⟨⟨a, b, d, t⟩, hr⟩ : ∃ z, x k = z := ⟨_, rfl⟩
      have d0 : wr.cell? ⟨gm, om + k * 4, none⟩ = some (.int .i64 d) := by have := keep (HX.out k 0 hlt (by decide)); rw [hr] at this; exact this
      have d1 : wr.cell? ⟨gm, om + k * 4 + 1, none⟩ = some (.string a) := by have := keep (HX.out k 1 hlt (by decide)); rw [hr] at this; exact this
      have d2 : wr.cell? ⟨gm, om + k * 4 + 2, none⟩ = some (.string b) := by have := keep (HX.out k 2 hlt (by decide)); rw [hr] at this; exact this
      have d3 : wr.cell? ⟨gm, om + k * 4 + 3, none⟩ = some (.int .i64 t) := by have := keep (HX.out k 3 hlt (by decide)); rw [hr] at this; exact this
      rw [hr] at HS
      clear hr keep
      by_cases h1 : d ≤ lo
      · have HM := Lib.hid (show mvN ⟨a, b, d, t⟩ c lo hi v = v by unfold mvN; rw [if_pos h1])
        go_wp2_with fail
        go_roundw
        case rel => exact ⟨k + 1, _, ⟨by omega, rfl, by first | rfl | go_num⟩, Lib.hid (by rw [HI.out, HS.out, HM.out]), by first | exact hB | (refine belowSeq2 hB ?_; go_grown)⟩
        case measure => simp [intOf]; omega
      · have h1' : lo < d := by omega
        by_cases h2 : hi < d
        · have HM := Lib.hid (show mvN ⟨a, b, d, t⟩ c lo hi v = v by unfold mvN; rw [if_neg h1, if_pos h2])
          go_wp2_with fail
          go_roundw
          case rel => exact ⟨k + 1, _, ⟨by omega, rfl, by first | rfl | go_num⟩, Lib.hid (by rw [HI.out, HS.out, HM.out]), by first | exact hB | (refine belowSeq2 hB ?_; go_grown)⟩
          case measure => simp [intOf]; omega
        · have h2' : d ≤ hi := by omega
          cases hb : (b.toList == c.toList) <;> cases ha : (a.toList == c.toList)
          all_goals
            have HM := Lib.hid (show mvN ⟨a, b, d, t⟩ c lo hi v = midN (b.toList == c.toList) (a.toList == c.toList) t v by unfold mvN; rw [if_neg h1, if_neg h2])
            rw [hb, ha] at HM
            go_wp2_with fail
            go_roundw
            case rel => exact ⟨k + 1, _, ⟨by omega, rfl, by first | rfl | go_num⟩, Lib.hid (by rw [HI.out, HS.out, HM.out]; first | rfl | rw [midN]), by first | exact hB | (refine belowSeq2 hB ?_; go_grown)⟩
            case measure => simp [intOf]; omega
    · obtain rfl : k = N := by omega
      have hge : ¬ (k : Int) < (k : Int) := by omega
      clear hlt
      go_wp2_with fail
      go_ret
      exact ⟨by rw [HI.out, Nat.sub_self]; rfl, by first | exact belowSeq2 hbw hB | (rw [← hB0]; exact belowSeq2 hbw hB)⟩
set_option linter.unusedVariables false in
set_option linter.unusedSimpArgs false in
set_option maxRecDepth 100000 in
set_option maxHeartbeats 4000000 in
theorem rnet_any (l0 l1 : Int) (sr : Option Addr) (nr cr gm om N cm : Nat) (x : Nat → Mw) (c : ByteArray) (lo hi : Int) (w : World) (hN : N ≤ 100000) (hx : ∀ i j, i < N → j < 4 → w.cell? ⟨gm, om + i * 4 + j, none⟩ = some ((x i).at j)) :
    Calls Try.prog 52 #[.agg #[.int .i64 l0, .int .i64 l1, .slice sr nr cr, .slice (some ⟨gm, om, none⟩) N cm], .string c, .int .i64 lo, .int .i64 hi] w fun e w' => e = .returned (.int .i64 (netF x c lo hi N 0 0)) ∧ Below w.heap.size w w' := by
  have HX := Lib.hid hx
  clear hx
  go_enter Try.func52, Try.ntmps52
  go_upto_region 1 with fail
  obtain ⟨B0, hB0⟩ : ∃ B, w.heap.size = B := ⟨_, rfl⟩
  rw [hB0]
  refine nameWorld (fun w' => w'.cell? ⟨B0, 3, none⟩ = some (.slice (some ⟨gm, om, none⟩) N cm) ∧ Below B0 w w' ∧ B0 < w'.heap.size) ?_ (fun wc hc => ?_)
  · rw [← hB0]
    exact ⟨by go_cell, by go_grown, by go_grown⟩
  obtain ⟨c3, hbw, hlt0⟩ := hc
  rw [← hB0] at hbw
  go_wp2_with fail
  go_loopw [9, 10] (fun z i wr => ∃ (k : Nat) (v : Int), (k ≤ N ∧ z = .int .i64 v ∧ i = .int .i64 (k : Int)) ∧ Hid (netF x c lo hi N 0 0 = netF x c lo hi (N - k) k v) ∧ Below wc.heap.size wc wr)
    (fun _ i _ => N - (intOf i).toNat)
  case atStart => exact ⟨0, 0, ⟨Nat.zero_le _, rfl, rfl⟩, Lib.hid rfl, Below.refl _ _⟩
  case round =>
    obtain ⟨k, v, ⟨hk, rfl, rfl⟩, HI, hB⟩ := hrel
    have y3 : wr.cell? ⟨B0, 3, none⟩ = some (.slice (some ⟨gm, om, none⟩) N cm) := keepC hB c3
    have hsz : B0 < wr.heap.size := Nat.lt_of_lt_of_le hlt0 hB.size
    by_cases hlt : k < N
    · have hk1 : (k : Int) < (N : Int) := by omega
      have HS := Lib.hid (netF_step x c lo hi N k v hlt)
      have keep : ∀ {a : Addr} {u : Value}, w.cell? a = some u → wr.cell? a = some u := fun h => keepC hB (keepC hbw h)
      obtain ⟨⟨a, b, d, t⟩, hr⟩ : ∃ z, x k = z := ⟨_, rfl⟩
      have d0 : wr.cell? ⟨gm, om + k * 4, none⟩ = some (.int .i64 d) := by have := keep (HX.out k 0 hlt (by decide)); rw [hr] at this; exact this
      have d1 : wr.cell? ⟨gm, om + k * 4 + 1, none⟩ = some (.string a) := by have := keep (HX.out k 1 hlt (by decide)); rw [hr] at this; exact this
      have d2 : wr.cell? ⟨gm, om + k * 4 + 2, none⟩ = some (.string b) := by have := keep (HX.out k 2 hlt (by decide)); rw [hr] at this; exact this
      have d3 : wr.cell? ⟨gm, om + k * 4 + 3, none⟩ = some (.int .i64 t) := by have := keep (HX.out k 3 hlt (by decide)); rw [hr] at this; exact this
      rw [hr] at HS
      clear hr keep
      by_cases h1 : d ≤ lo
      · have HM := Lib.hid (show mvN ⟨a, b, d, t⟩ c lo hi v = v by unfold mvN; rw [if_pos h1])
        go_wp2_with fail
        go_roundw
        case rel => exact ⟨k + 1, _, ⟨by omega, rfl, by first | rfl | go_num⟩, Lib.hid (by rw [HI.out, HS.out, HM.out]), by first | exact hB | (refine belowSeq2 hB ?_; go_grown)⟩
        case measure => simp [intOf]; omega
      · have h1' : lo < d := by omega
        by_cases h2 : hi < d
        · have HM := Lib.hid (show mvN ⟨a, b, d, t⟩ c lo hi v = v by unfold mvN; rw [if_neg h1, if_pos h2])
          go_wp2_with fail
          go_roundw
          case rel => exact ⟨k + 1, _, ⟨by omega, rfl, by first | rfl | go_num⟩, Lib.hid (by rw [HI.out, HS.out, HM.out]), by first | exact hB | (refine belowSeq2 hB ?_; go_grown)⟩
          case measure => simp [intOf]; omega
        · have h2' : d ≤ hi := by omega
          cases hb : (b.toList == c.toList) <;> cases ha : (a.toList == c.toList)
          all_goals
            have HM := Lib.hid (show mvN ⟨a, b, d, t⟩ c lo hi v = midN (b.toList == c.toList) (a.toList == c.toList) t v by unfold mvN; rw [if_neg h1, if_neg h2])
            rw [hb, ha] at HM
            go_wp2_with fail
            go_roundw
            case rel => exact ⟨k + 1, _, ⟨by omega, rfl, by first | rfl | go_num⟩, Lib.hid (by rw [HI.out, HS.out, HM.out]; first | rfl | rw [midN]), by first | exact hB | (refine belowSeq2 hB ?_; go_grown)⟩
            case measure => simp [intOf]; omega
    · obtain rfl : k = N := by omega
      have hge : ¬ (k : Int) < (k : Int) := by omega
      clear hlt
      go_wp2_with fail
      go_ret
      exact ⟨by rw [HI.out, Nat.sub_self]; rfl, by first | exact belowSeq2 hbw hB | (rw [← hB0]; exact belowSeq2 hbw hB)⟩
end Go.Proofs.Ytlmnhlmgbcpclaa
