import Derived.Test.YtpccfjdgnmmfoaaW5
/- flor's own Followed, in one contract. -/
namespace Go.Proofs.Ytpccfjdgnmmfoaa
open Go.RowKit

/-- what a list of wines is in memory -/
def Lies (L : List Wn) (sb : Option Addr) (g : Nat) (w : World) : Prop := (0 < L.length → sb = some ⟨g, 0, none⟩) ∧ ∀ i j, i < L.length → j < 6 → w.cell? ⟨g, i * 6 + j, none⟩ = some (.int .i64 ((L.getD i .zero).at j))
theorem mes0_zero {n : Nat} (h : mes0 n = 0) : 0 < n ∧ n ≤ 40 := by
  obtain ⟨h1, h2⟩ := firstE_two h
  unfold unlE at h1 h2
  split at h1 <;> split at h2 <;> simp_all <;> omega
theorem followed_any (r : Sp) (f : Nat → Ms) (sa : Option Addr) (n cp b off : Nat) (w : World) (hsa : 0 < n → sa = some ⟨b, off, none⟩) (hc : ∀ k j, k < n → j < 7 → w.cell? ⟨b, off + k * 7 + j, none⟩ = some (.int .i64 ((f k).at j))) :
    Calls Try.prog 25 #[.agg #[.int .i64 r.a0, .int .i64 r.a1, .int .i64 r.g0, .int .i64 r.g1], .slice sa n cp] w fun e w' => (∃ (sb : Option Addr) (cb g : Nat), e = .returned (.tuple #[.slice sb (FL r f n).length cb, .int .i64 (FN r f n), .int .i64 (FE r f n)]) ∧ Lies (FL r f n) sb g w') ∧ Below w.heap.size w w' := by
  have nil : ∀ w : World, Lies [] none 0 w := fun w => ⟨fun h => by simp at h, fun i j h => by simp at h⟩
  by_cases h1 : rateE r.a0 r.a1 r.g0 r.g1 = 0
  case neg =>
    have e0 : fol0 r f n = rateE r.a0 r.a1 r.g0 r.g1 := if_pos h1
    have e1 : FE r f n = rateE r.a0 r.a1 r.g0 r.g1 := by unfold FE; rw [e0, if_pos h1]
    have e2 : FN r f n = 0 := if_pos h1
    have e3 : FL r f n = [] := by unfold FL; rw [e1, if_neg h1]
    rw [e1, e2, e3]
    exact (fol_rate r f sa n cp b off w (by simpa using h1)).mono fun e w' ⟨he, hb⟩ => ⟨⟨none, 0, 0, he, nil _⟩, hb⟩
  by_cases h2 : mes0 n = 0
  case neg =>
    have e0 : fol0 r f n = mes0 n := by unfold fol0; rw [if_neg (by simpa using h1), if_pos h2]
    have e1 : FE r f n = mes0 n := by unfold FE; rw [e0, if_pos h2]
    have e2 : FN r f n = 0 := by unfold FN; rw [if_neg (by simpa using h1), if_pos h2]
    have e3 : FL r f n = [] := by unfold FL; rw [e1, if_neg h2]
    rw [e1, e2, e3]
    exact (fol_mes r f sa n cp b off w (by rw [h1]; rfl) 0 (mes0 n) (by simpa using h2) (fun W hW => mes_err f sa n cp b off W (by simpa using h2))).mono fun e w' ⟨he, hb⟩ => ⟨⟨none, 0, 0, he, nil _⟩, hb⟩
  obtain ⟨hn0, hn⟩ := mes0_zero h2
  have hM := fun (W : World) (hW : Below w.heap.size w W) => mes_ok f sa n cp b off W hsa hn (by rw [h2]; rfl) (fun k j hk hj => keepC hW (hc k j hk hj))
  by_cases h3 : mesE f n 0 = 0
  case neg =>
    have e0 : fol0 r f n = mesE f n 0 := by unfold fol0; rw [if_neg (by simpa using h1), if_neg (by simpa using h2)]
    have e1 : FE r f n = mesE f n 0 := by unfold FE; rw [e0, if_pos h3]
    have e2 : FN r f n = mesN f n 0 := by unfold FN; rw [if_neg (by simpa using h1), if_neg (by simpa using h2), if_pos h3]
    have e3 : FL r f n = [] := by unfold FL; rw [e1, if_neg h3]
    rw [e1, e2, e3]
    exact (fol_mes r f sa n cp b off w (by rw [h1]; rfl) (mesN f n 0) (mesE f n 0) (by simpa using h3) hM).mono fun e w' ⟨he, hb⟩ => ⟨⟨none, 0, 0, he, nil _⟩, hb⟩
  have hN0 : mesN f n 0 = 0 := by
    have : ∀ m k, mesE f m k = 0 → mesN f m k = 0 := by
      intro m
      induction m with
      | zero => intro k _; rfl
      | succ m ih =>
        intro k h
        unfold mesE at h
        unfold mesN
        by_cases hz : mesS f k = 0
        · rw [if_pos hz] at h ⊢; exact ih _ h
        · rw [if_neg hz] at h; exact absurd h hz
    exact this n 0 h3
  have e0 : fol0 r f n = 0 := by unfold fol0; rw [if_neg (by simpa using h1), if_neg (by simpa using h2)]; exact h3
  have e1 : FE r f n = folE r f (n - 1) 1 (f 0).x := by unfold FE; rw [e0, if_neg (by decide)]
  have e2 : FN r f n = folN r f (n - 1) 1 (f 0).x := by unfold FN; rw [if_neg (by simpa using h1), if_neg (by simpa using h2), if_neg (by simpa using h3)]
  refine (fol_ok r f sa n cp b off w h1 hn0 hn hsa h3 hc (fun W hW => by have := hM W hW; rw [hN0, h3] at this; exact this)).mono fun e w' ⟨he, hb⟩ => ⟨?_, hb⟩
  rcases he with ⟨hz, cb, g, he, hcell⟩ | ⟨hz, he⟩
  · have e3 : FL r f n = (f 0).x :: folL r f (n - 1) 1 (f 0).x := by unfold FL; rw [e1, if_pos hz]
    have hz2 : folN r f (n - 1) 1 (f 0).x = 0 := by
      have : ∀ m k x, folE r f m k x = 0 → folN r f m k x = 0 := by
        intro m
        induction m with
        | zero => intro k x _; rfl
        | succ m ih =>
          intro k x h
          unfold folE at h
          unfold folN
          by_cases hz : folD r f k x = 0
          · rw [if_pos hz] at h ⊢; exact ih _ _ h
          · rw [if_neg hz] at h; exact absurd h hz
      exact this _ _ _ hz
    rw [e1, e2, e3, hz, hz2]
    exact ⟨some ⟨g, 0, none⟩, cb, g, he, fun _ => rfl, hcell⟩
  · have e3 : FL r f n = [] := by unfold FL; rw [e1, if_neg hz]
    rw [e1, e2, e3]
    exact ⟨none, 0, 0, he, nil _⟩
end Go.Proofs.Ytpccfjdgnmmfoaa

/- What the reference's Common and After answer, in the words of plain functions. -/
namespace Go.Proofs.Ytpccfjdgnmmfoaa
open Go.RowKit

theorem refCommon_any (x y : Wn) (w : World) : Calls Try.prog 29 #[x.val, y.val] w fun e w' => e = .returned (.tuple #[(x.com y).val, .bool (x.com y).isB]) ∧ Below w.heap.size w w' := by
  by_cases k0 : (x.com y).v0 ≤ (x.com y).v1
  · by_cases k1 : (x.com y).s0 ≤ (x.com y).s1
    · by_cases k2 : (x.com y).c0 ≤ (x.com y).c1
      · have e : (x.com y).isB = true := by simp [Wn.isB, k0, k1, k2]
        rw [e]
        exact common_yes _ _ _ _ _ _ _ _ _ _ _ _ w _ _ _ _ _ _ rfl rfl rfl rfl rfl rfl k0 k1 k2
      · have e : (x.com y).isB = false := by simp [Wn.isB, k0, k1, k2]
        rw [e]
        exact common_no2 _ _ _ _ _ _ _ _ _ _ _ _ w _ _ _ _ _ _ rfl rfl rfl rfl rfl rfl k0 k1 (Int.not_le.1 k2)
    · have e : (x.com y).isB = false := by simp [Wn.isB, k0, k1]
      rw [e]
      exact common_no1 _ _ _ _ _ _ _ _ _ _ _ _ w _ _ _ _ _ _ rfl rfl rfl rfl rfl rfl k0 (Int.not_le.1 k1)
  · have e : (x.com y).isB = false := by simp [Wn.isB, k0]
    rw [e]
    exact common_no0 _ _ _ _ _ _ _ _ _ _ _ _ w _ _ _ _ _ _ rfl rfl rfl rfl rfl rfl (Int.not_le.1 k0)
theorem aftR_st (x : Wn) (r : Sp) : aftR x.v0 x.v1 x.s0 x.s1 x.c0 x.c1 r.a0 r.a1 r.g0 r.g1 r.d = .tuple #[(stW x r).val, .int .i64 (stE x r)] := by
  rw [aftR, stW, stE]
  by_cases k1 : x.large r
  · have k2 : 10000 < ce (x.s1 * lft r.g0 r.d) (lft r.a1 r.d) ∨ 100000 < ce (x.c1 * 1000000) (lft r.a1 r.d) := k1
    rw [if_pos k2, if_pos k1, if_pos k1]; rfl
  · have k2 : ¬ (10000 < ce (x.s1 * lft r.g0 r.d) (lft r.a1 r.d) ∨ 100000 < ce (x.c1 * 1000000) (lft r.a1 r.d)) := k1
    rw [if_neg k2, if_neg k1, if_neg k1]; rfl
theorem rchk_any (x : Wn) (r : Sp) (hx : x.err = 0) (hr : rateE r.a0 r.a1 r.g0 r.g1 = 0) (d0 : 0 ≤ r.d) (d1 : r.d ≤ 366) (w : World) :
    Calls Try.prog 70 #[x.val, .agg #[.int .i64 r.a0, .int .i64 r.a1, .int .i64 r.g0, .int .i64 r.g1], .int .i64 r.d] w fun e w' => e = .returned (.tuple #[(stW x r).val, .int .i64 (stE x r)]) ∧ Below w.heap.size w w' := by
  obtain ⟨⟨R0, R1, R2⟩, ⟨T0, T1, T2⟩, ⟨Z0, Z1, Z2⟩⟩ := wineE_zero.1 hx
  obtain ⟨⟨A0, A1, A2⟩, ⟨G0, G1, G2⟩⟩ := rateE_zero.1 hr
  have := after_any x.v0 x.v1 x.s0 x.s1 x.c0 x.c1 r.a0 r.a1 r.g0 r.g1 r.d w (by omega) (by omega) (by omega) (by omega) (by omega) (by omega) (by omega) (by omega) (by omega) (by omega) (by omega) (by omega) (by omega) (by omega) (by omega) (by omega) (by omega) (by omega) (by omega) (by omega) (by omega) (by omega)
  rw [aftR_st] at this
  exact this
theorem rMeasure_any (da v0 v1 s0 s1 c0 c1 : Int) (w : World) : Calls Try.prog 68 #[.agg #[.int .i64 da, .int .i64 v0, .int .i64 v1, .int .i64 s0, .int .i64 s1, .int .i64 c0, .int .i64 c1]] w fun e w' => e = .returned (.int .i64 (measE da v0 v1 s0 s1 c0 c1)) ∧ Below w.heap.size w w' := by
  have := measureErr_any da v0 v1 s0 s1 c0 c1 w
  rw [measR_eq] at this
  exact this
theorem rBetween_any (da v0 v1 s0 s1 c0 c1 db u0 u1 r0 r1 q0 q1 : Int) (w : World) (da0 : 0 ≤ da) (da1 : da ≤ 100000) (db0 : 0 ≤ db) (db1 : db ≤ 100000) : Calls Try.prog 69 #[.agg #[.int .i64 da, .int .i64 v0, .int .i64 v1, .int .i64 s0, .int .i64 s1, .int .i64 c0, .int .i64 c1], .agg #[.int .i64 db, .int .i64 u0, .int .i64 u1, .int .i64 r0, .int .i64 r1, .int .i64 q0, .int .i64 q1]] w fun e w' => e = .returned (.int .i64 (betE da db)) ∧ Below w.heap.size w w' := by
  have := betweenErr_any da v0 v1 s0 s1 c0 c1 db u0 u1 r0 r1 q0 q1 w da0 da1 db0 db1
  rw [← betE_eq da db da0 da1 db0 db1] at this
  exact this
/-- a measurement that follows others without an error -/
theorem mesS_err {f : Nat → Ms} {k : Nat} (h : (f k).err ≠ 0) : mesS f k = (f k).err := by
  unfold mesS firstE
  split
  · rfl
  · first | rfl | rw [if_pos h]
theorem mesS_first {f : Nat → Ms} {k : Nat} (h : (f k).err = 0) (hk : k = 0) : mesS f k = 0 := by
  unfold mesS; rw [if_pos hk]; exact h
theorem mesS_later {f : Nat → Ms} {k : Nat} (h : (f k).err = 0) (hk : k ≠ 0) : mesS f k = betE (f (k - 1)).d (f k).d := by
  unfold mesS firstE
  rw [if_neg hk, if_neg (by simpa using h)]
  by_cases e : betE (f (k - 1)).d (f k).d = 0
  · rw [if_neg (by simpa using e), e]
  · rw [if_pos e]
theorem mesS_right {f : Nat → Ms} {k : Nat} (h : mesS f k = 0) : (0 ≤ (f k).d ∧ (f k).d ≤ 100000) ∧ (f k).x.err = 0 := by
  by_cases e : (f k).err = 0
  · exact measE_zero e
  · rw [mesS_err e] at h; exact absurd h e
end Go.Proofs.Ytpccfjdgnmmfoaa
