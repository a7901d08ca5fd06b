/- Which books the laws look at. -/
import Derived.Test.YtlmnhlmgbcpclaaJ13
namespace Go.Proofs.Ytlmnhlmgbcpclaa
open Go.RowKit

def allF (p : Nat → Bool) : Nat → Nat → Bool
  | 0, _ => true
  | m + 1, k => if p k then allF p m (k + 1) else false
theorem allF_step {p : Nat → Bool} {n k : Nat} (hk : k < n) : allF p (n - k) k = (if p k then allF p (n - (k + 1)) (k + 1) else false) := by
  obtain ⟨m, hm⟩ : ∃ m, n - k = m + 1 := ⟨n - k - 1, by omega⟩
  rw [hm, show n - (k + 1) = m by omega]
  rfl
/-- how many gaugings and moves -/
def fewN (NR NM : Nat) : Bool := (decide (NR ≤ 8) || decide (40 < NR ∧ NR ≤ 42)) && (decide (NM ≤ 8) || decide (60 < NM ∧ NM ≤ 62))
def rOk (x : Nat → Rd) (i : Nat) : Bool := decide ((x i).s.size ≤ 20)
def mOk (y : Nat → Mw) (i : Nat) : Bool := decide ((y i).a.size ≤ 20 ∧ (y i).b.size ≤ 20)
def fewR (x : Nat → Rd) (NR : Nat) : Bool := allF (rOk x) NR 0
def fewM (y : Nat → Mw) (NM : Nat) : Bool := allF (mOk y) NM 0
set_option linter.unusedVariables false in
set_option linter.unusedSimpArgs false in
set_option maxRecDepth 100000 in
set_option maxHeartbeats 8000000 in
theorem few_no (lo hi : Int) (sr sm : Option Addr) (gr or NR cr gm om NM cm : Nat) (x : Nat → Rd) (y : Nat → Mw) (w : World) (h : fewN NR NM = false) :
    Calls Try.prog 8 #[.agg #[.int .i64 lo, .int .i64 hi, .slice sr NR cr, .slice sm NM cm]] w fun e w' => e = .returned (.bool false) ∧ Below w.heap.size w w' := by
  have hc : (8 < NR ∧ NR ≤ 40) ∨ 42 < NR ∨ (NR ≤ 8 ∧ ((8 < NM ∧ NM ≤ 60) ∨ 62 < NM)) ∨ (40 < NR ∧ NR ≤ 42 ∧ ((8 < NM ∧ NM ≤ 60) ∨ 62 < NM)) := by
    by_cases a1 : NR ≤ 8 <;> by_cases a2 : 40 < NR ∧ NR ≤ 42 <;> by_cases a3 : NM ≤ 8 <;> by_cases a4 : 60 < NM ∧ NM ≤ 62 <;> simp [fewN, a1, a2, a3, a4] at h <;> omega
  clear h
  rcases hc with ⟨a, b⟩ | a | ⟨a, ⟨b, c⟩ | b⟩ | ⟨a, b, ⟨c, d⟩ | c⟩
  · have f0 : (8 : Int) < NR := by omega
    have f1 : (NR : Int) ≤ 40 := by omega
    go_enter Try.func8, Try.ntmps8
    go_wp2_with fail
    go_ret
    exact ⟨rfl, by go_grown⟩
  · have f0 : (8 : Int) < NR := by omega
    have f1 : ¬ (NR : Int) ≤ 40 := by omega
    have f2 : (42 : Int) < NR := by omega
    go_enter Try.func8, Try.ntmps8
    go_wp2_with fail
    go_ret
    exact ⟨rfl, by go_grown⟩
  · have f0 : ¬ (8 : Int) < NR := by omega
    have f1 : ¬ (42 : Int) < NR := by omega
    have f2 : (8 : Int) < NM := by omega
    have f3 : (NM : Int) ≤ 60 := by omega
    go_enter Try.func8, Try.ntmps8
    go_wp2_with fail
    go_ret
    exact ⟨rfl, by go_grown⟩
  · have f0 : ¬ (8 : Int) < NR := by omega
    have f1 : ¬ (42 : Int) < NR := by omega
    have f2 : (8 : Int) < NM := by omega
    have f3 : ¬ (NM : Int) ≤ 60 := by omega
    have f4 : (62 : Int) < NM := by omega
    go_enter Try.func8, Try.ntmps8
    go_wp2_with fail
    go_ret
    exact ⟨rfl, by go_grown⟩
  · have f0 : (8 : Int) < NR := by omega
    have f1 : ¬ (NR : Int) ≤ 40 := by omega
    have f2 : ¬ (42 : Int) < NR := by omega
    have f3 : (8 : Int) < NM := by omega
    have f4 : (NM : Int) ≤ 60 := by omega
    go_enter Try.func8, Try.ntmps8
    go_wp2_with fail
    go_ret
    exact ⟨rfl, by go_grown⟩
  · have f0 : (8 : Int) < NR := by omega
    have f1 : ¬ (NR : Int) ≤ 40 := by omega
    have f2 : ¬ (42 : Int) < NR := by omega
    have f3 : (8 : Int) < NM := by omega
    have f4 : ¬ (NM : Int) ≤ 60 := by omega
    have f5 : (62 : Int) < NM := by omega
    go_enter Try.func8, Try.ntmps8
    go_wp2_with fail
    go_ret
    exact ⟨rfl, by go_grown⟩
set_option linter.unusedVariables false in
set_option linter.unusedSimpArgs false in
set_option maxRecDepth 100000 in
set_option maxHeartbeats 8000000 in
theorem few_yes (lo hi : Int) (sr sm : Option Addr) (gr or NR cr gm om NM cm : Nat) (x : Nat → Rd) (y : Nat → Mw) (w : World) (h : fewN NR NM = true) (hsr : 0 < NR → sr = some ⟨gr, or, none⟩) (hsm : 0 < NM → sm = some ⟨gm, om, none⟩) (hR : ∀ i j, i < NR → j < 4 → w.cell? ⟨gr, or + i * 4 + j, none⟩ = some ((x i).at j)) (hM : ∀ i j, i < NM → j < 4 → w.cell? ⟨gm, om + i * 4 + j, none⟩ = some ((y i).at j)) :
    Calls Try.prog 8 #[.agg #[.int .i64 lo, .int .i64 hi, .slice sr NR cr, .slice sm NM cm]] w fun e w' => e = .returned (.bool (fewR x NR && fewM y NM)) ∧ Below w.heap.size w w' := by
  have HXR := Lib.hid hR
  have HXM := Lib.hid hM
  have HSR := Lib.hid hsr
  have HSM := Lib.hid hsm
  clear hR hM hsr hsm
  obtain ⟨RR, hRR⟩ : ∃ z, fewR x NR = z := ⟨_, rfl⟩
  obtain ⟨MM, hMM⟩ : ∃ z, fewM y NM = z := ⟨_, rfl⟩
  rw [hRR, hMM]
  have HRR := Lib.hid hRR
  have HMM := Lib.hid hMM
  clear hRR hMM
  have hc : (NR ≤ 8 ∧ NM ≤ 8) ∨ (NR ≤ 8 ∧ 60 < NM ∧ NM ≤ 62) ∨ (40 < NR ∧ NR ≤ 42 ∧ NM ≤ 8) ∨ (40 < NR ∧ NR ≤ 42 ∧ 60 < NM ∧ NM ≤ 62) := by
    by_cases a1 : NR ≤ 8 <;> by_cases a2 : 40 < NR ∧ NR ≤ 42 <;> by_cases a3 : NM ≤ 8 <;> by_cases a4 : 60 < NM ∧ NM ≤ 62 <;> simp [fewN, a1, a2, a3, a4] at h <;> omega
  clear h
  have hNR : NR ≤ 42 := by omega
  have hNM : NM ≤ 62 := by omega
  have fr : (¬ (8 : Int) < NR ∧ ¬ (42 : Int) < NR) ∨ ((8 : Int) < NR ∧ ¬ (NR : Int) ≤ 40 ∧ ¬ (42 : Int) < NR) := by omega
  have fm : (¬ (8 : Int) < NM ∧ ¬ (62 : Int) < NM) ∨ ((8 : Int) < NM ∧ ¬ (NM : Int) ≤ 60 ∧ ¬ (62 : Int) < NM) := by omega
  clear hc
  rcases fr with ⟨a1, a2⟩ | ⟨a1, a2, a3⟩ <;> rcases fm with ⟨b1, b2⟩ | ⟨b1, b2, b3⟩
  all_goals
    go_enter Try.func8, Try.ntmps8
    go_upto_region 3 with fail
    refine nameWorld (fun w' => w'.cell? ⟨w.heap.size, 2, none⟩ = some (.slice sr NR cr) ∧ w'.cell? ⟨w.heap.size, 3, none⟩ = some (.slice sm NM cm) ∧ Below w.heap.size w w') ⟨by go_cell, by go_cell, by go_grown⟩ (fun wa hq => ?_)
    obtain ⟨x2, x3, hB⟩ := hq
    clear a1 a2 b1 b2
    go_wp2_with fail
    go_loopw [3] (fun i wr => ∃ k : Nat, (k ≤ NR ∧ i = .int .i64 (k : Int)) ∧ Hid (RR = allF (rOk x) (NR - k) k) ∧ wr.cell? ⟨w.heap.size, 2, none⟩ = some (.slice sr NR cr) ∧ wr.cell? ⟨w.heap.size, 3, none⟩ = some (.slice sm NM cm) ∧ Below w.heap.size w wr)
      (fun i _ => NR - (intOf i).toNat)
    case atStart => exact ⟨0, ⟨Nat.zero_le _, rfl⟩, Lib.hid HRR.out.symm, x2, x3, hB⟩
    case round =>
      obtain ⟨k, ⟨hk, rfl⟩, HI, x2, x3, hB⟩ := hrel
      by_cases hlt : k < NR
      · have hk1 : (k : Int) < (NR : Int) := by omega
        obtain rfl := HSR.out (by omega)
        obtain ⟨⟨s, d, a, b⟩, hr⟩ : ∃ z, x k = z := ⟨_, rfl⟩
        have d0 : wr.cell? ⟨gr, or + k * 4, none⟩ = some (.string s) := by have := keepC hB (HXR.out k 0 hlt (by decide)); rw [hr] at this; exact this
        have HS := Lib.hid (allF_step (p := (rOk x)) hlt)
        by_cases hz : s.size ≤ 20
        · have hz1 : ¬ (20 : Int) < (s.size : Int) := by omega
          have HE : Hid ((rOk x) k = true) := Lib.hid (by show decide _ = true; rw [hr]; exact decide_eq_true hz)
          clear hr hz
          go_wp2_with fail
          go_roundw
          case rel => exact ⟨k + 1, ⟨by omega, by first | rfl | go_num⟩, Lib.hid (by rw [HI.out, HS.out, HE.out]; rfl), x2, x3, hB⟩
          case measure => simp [intOf]; omega
        · have hz1 : (20 : Int) < (s.size : Int) := by omega
          have HE : Hid ((rOk x) k = false) := Lib.hid (by show decide _ = false; rw [hr]; exact decide_eq_false hz)
          clear hr hz
          go_wp2_with fail
          go_ret
          exact ⟨by rw [HI.out, HS.out, HE.out]; rfl, hB⟩
      · obtain rfl : NR = k := by omega
        have hge : ¬ (NR : Int) < (NR : Int) := by omega
        have HR1 : Hid (RR = true) := Lib.hid (by rw [HI.out, Nat.sub_self]; rfl)
        clear hlt HI
        go_wp2_with fail
        go_loopw [4] (fun i wr => ∃ k : Nat, (k ≤ NM ∧ i = .int .i64 (k : Int)) ∧ Hid (MM = allF (mOk y) (NM - k) k) ∧ wr.cell? ⟨w.heap.size, 2, none⟩ = some (.slice sr NR cr) ∧ wr.cell? ⟨w.heap.size, 3, none⟩ = some (.slice sm NM cm) ∧ Below w.heap.size w wr)
          (fun i _ => NM - (intOf i).toNat)
        case atStart => exact ⟨0, ⟨Nat.zero_le _, rfl⟩, Lib.hid HMM.out.symm, x2, x3, hB⟩
        case round =>
          obtain ⟨k, ⟨hk, rfl⟩, HI, x2, x3, hB⟩ := hrel
          by_cases hlt : k < NM
          · have hk1 : (k : Int) < (NM : Int) := by omega
            obtain rfl := HSM.out (by omega)
            obtain ⟨⟨a, b, d, t⟩, hr⟩ : ∃ z, y k = z := ⟨_, rfl⟩
            have d1 : wr.cell? ⟨gm, om + k * 4 + 1, none⟩ = some (.string a) := by have := keepC hB (HXM.out k 1 hlt (by decide)); rw [hr] at this; exact this
            have d2 : wr.cell? ⟨gm, om + k * 4 + 2, none⟩ = some (.string b) := by have := keepC hB (HXM.out k 2 hlt (by decide)); rw [hr] at this; exact this
            have HS := Lib.hid (allF_step (p := (mOk y)) hlt)
            by_cases hz : a.size ≤ 20
            · by_cases hz2 : b.size ≤ 20
              · have hz1 : ¬ (20 : Int) < (a.size : Int) := by omega
                have hz3 : ¬ (20 : Int) < (b.size : Int) := by omega
                have HE : Hid ((mOk y) k = true) := Lib.hid (by show decide _ = true; rw [hr]; exact decide_eq_true ⟨hz, hz2⟩)
                clear hr hz hz2
                go_wp2_with fail
                go_roundw
                case rel => exact ⟨k + 1, ⟨by omega, by first | rfl | go_num⟩, Lib.hid (by rw [HI.out, HS.out, HE.out]; rfl), x2, x3, hB⟩
                case measure => simp [intOf]; omega
              · have hz1 : ¬ (20 : Int) < (a.size : Int) := by omega
                have hz3 : (20 : Int) < (b.size : Int) := by omega
                have HE : Hid ((mOk y) k = false) := Lib.hid (by show decide _ = false; rw [hr]; exact decide_eq_false (fun h => hz2 h.2))
                clear hr hz
                go_wp2_with fail
                go_ret
                exact ⟨by rw [HI.out, HS.out, HE.out, HR1.out]; rfl, hB⟩
            · have hz1 : (20 : Int) < (a.size : Int) := by omega
              have HE : Hid ((mOk y) k = false) := Lib.hid (by show decide _ = false; rw [hr]; exact decide_eq_false (fun h => hz h.1))
              clear hr hz
              go_wp2_with fail
              go_ret
              exact ⟨by rw [HI.out, HS.out, HE.out, HR1.out]; rfl, hB⟩
          · obtain rfl : NM = k := by omega
            have hge : ¬ (NM : Int) < (NM : Int) := by omega
            have HM1 : Hid (MM = true) := Lib.hid (by rw [HI.out, Nat.sub_self]; rfl)
            clear hlt HI
            go_wp2_with fail
            go_ret
            exact ⟨by rw [HR1.out, HM1.out]; rfl, hB⟩
end Go.Proofs.Ytlmnhlmgbcpclaa
