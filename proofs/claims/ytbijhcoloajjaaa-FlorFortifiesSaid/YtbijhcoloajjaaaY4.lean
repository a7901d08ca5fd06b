/- The reference's Mixed, walked. -/
import Derived.Test.YtbijhcoloajjaaaYY
namespace Go.Proofs.Ytbijhcoloajjaaa
open Go.RowKit

theorem AnyG.hideQ {P : Program} {md : Region.Mode} {ops : Array Oper} {Q : Exit → Act → World → Prop} {G : World → Prop} {kind : Nat → Bool} {n : Nat} {listed : Array Bool} {a : Act} {w : World}
    (h : ∀ Q' : Exit → Act → World → Prop, Hid (Q' = Q) → AnyG P md ops Q' G kind n listed a w) : AnyG P md ops Q G kind n listed a w := h Q (Lib.hid rfl)
theorem err_bds {x : Wn} (h : x.err = 0) : ((0 ≤ x.s0 ∧ x.s0 ≤ 100000) ∧ (0 ≤ x.s1 ∧ x.s1 ≤ 100000)) ∧ ((0 ≤ x.c0 ∧ x.c0 ≤ 100000) ∧ (0 ≤ x.c1 ∧ x.c1 ≤ 100000)) := by
  obtain ⟨x0, x1, x2, x3, x4, x5⟩ := x
  obtain ⟨⟨a0, a1, a2⟩, ⟨b0, b1, b2⟩, ⟨d0, d1, d2⟩⟩ := wineE_zero.1 h
  dsimp only at *
  omega
theorem Rows3.cells {T : TypeId} {f : Nat → Wn} {B n : Nat} {a b c : Value} {w : World} (h : Rows3 T f B n a b c w) (h0 : 0 < n) : ∃ g0 p0 g1 p1 g2 p2, a = .slice (some ⟨g0, 0, none⟩) n p0 ∧ b = .slice (some ⟨g1, 0, none⟩) n p1 ∧ c = .slice (some ⟨g2, 0, none⟩) n p2 ∧
    (∀ i, i < n → w.cell? ⟨g0, 0 + i * 2, none⟩ = some (.int .i64 (f i).v0) ∧ w.cell? ⟨g0, 0 + i * 2 + 1, none⟩ = some (.int .i64 (f i).v1)) ∧
    (∀ i, i < n → w.cell? ⟨g1, 0 + i * 2, none⟩ = some (.int .i64 (f i).s0) ∧ w.cell? ⟨g1, 0 + i * 2 + 1, none⟩ = some (.int .i64 (f i).s1)) ∧
    (∀ i, i < n → w.cell? ⟨g2, 0 + i * 2, none⟩ = some (.int .i64 (f i).c0) ∧ w.cell? ⟨g2, 0 + i * 2 + 1, none⟩ = some (.int .i64 (f i).c1)) := by
  have one : ∀ m, m < 3 → ∃ g p, v3 a b c m = .slice (some ⟨g, 0, none⟩) n p ∧ ∀ i, i < n → w.cell? ⟨g, 0 + i * 2, none⟩ = some (.int .i64 (loW m (f i))) ∧ w.cell? ⟨g, 0 + i * 2 + 1, none⟩ = some (.int .i64 (hiW m (f i))) := fun m hm => by
    have h1 := h.1 m hm
    obtain ⟨g, p, e, -, -⟩ := h1.form h0
    rw [e] at h1
    refine ⟨g, p, e, fun i hi => ?_⟩
    obtain ⟨a1, a2⟩ := rowX_at f m n i hi
    rw [Nat.zero_add]
    exact ⟨(h1.cellAt _ (by omega)).trans a1, (h1.cellAt _ (by omega)).trans a2⟩
  obtain ⟨g0, p0, e0, h00⟩ := one 0 (by decide)
  obtain ⟨g1, p1, e1, h11⟩ := one 1 (by decide)
  obtain ⟨g2, p2, e2, h22⟩ := one 2 (by decide)
  exact ⟨g0, p0, g1, p1, g2, p2, e0, e1, e2, h00, h11, h22⟩
theorem set4 {W : World} {b : Nat} {u0 u1 u2 u3 u4 u5 : Value} (h0 : W.cell? ⟨b, 0, none⟩ = some u0) (h1 : W.cell? ⟨b, 1, none⟩ = some u1) (h2 : W.cell? ⟨b, 2, none⟩ = some u2) (h3 : W.cell? ⟨b, 3, none⟩ = some u3) (h4 : W.cell? ⟨b, 4, none⟩ = some u4) (h5 : W.cell? ⟨b, 5, none⟩ = some u5) (x2 x3 x4 x5 : Value) :
    ((((W.setCell ⟨b, 2, none⟩ x2).setCell ⟨b, 3, none⟩ x3).setCell ⟨b, 4, none⟩ x4).setCell ⟨b, 5, none⟩ x5).cell? ⟨b, 0, none⟩ = some u0 ∧ ((((W.setCell ⟨b, 2, none⟩ x2).setCell ⟨b, 3, none⟩ x3).setCell ⟨b, 4, none⟩ x4).setCell ⟨b, 5, none⟩ x5).cell? ⟨b, 1, none⟩ = some u1 ∧ ((((W.setCell ⟨b, 2, none⟩ x2).setCell ⟨b, 3, none⟩ x3).setCell ⟨b, 4, none⟩ x4).setCell ⟨b, 5, none⟩ x5).cell? ⟨b, 2, none⟩ = some x2 ∧ ((((W.setCell ⟨b, 2, none⟩ x2).setCell ⟨b, 3, none⟩ x3).setCell ⟨b, 4, none⟩ x4).setCell ⟨b, 5, none⟩ x5).cell? ⟨b, 3, none⟩ = some x3 ∧ ((((W.setCell ⟨b, 2, none⟩ x2).setCell ⟨b, 3, none⟩ x3).setCell ⟨b, 4, none⟩ x4).setCell ⟨b, 5, none⟩ x5).cell? ⟨b, 4, none⟩ = some x4 ∧ ((((W.setCell ⟨b, 2, none⟩ x2).setCell ⟨b, 3, none⟩ x3).setCell ⟨b, 4, none⟩ x4).setCell ⟨b, 5, none⟩ x5).cell? ⟨b, 5, none⟩ = some x5 := by
  refine ⟨?_, ?_, ?_, ?_, ?_, ?_⟩
  · rw [setOff (by decide), setOff (by decide), setOff (by decide), setOff (by decide)]; exact h0
  · rw [setOff (by decide), setOff (by decide), setOff (by decide), setOff (by decide)]; exact h1
  · rw [setOff (by decide), setOff (by decide), setOff (by decide)]; exact World.cell?_setCell_same _ _ _ h2
  · rw [setOff (by decide), setOff (by decide)]; exact World.cell?_setCell_same _ _ _ (by rw [setOff (by decide)]; exact h3)
  · rw [setOff (by decide)]; exact World.cell?_setCell_same _ _ _ (by rw [setOff (by decide), setOff (by decide)]; exact h4)
  · exact World.cell?_setCell_same _ _ _ (by rw [setOff (by decide), setOff (by decide), setOff (by decide)]; exact h5)
attribute [local irreducible] AnyG HeadP HeadL
set_option linter.unusedVariables false in
set_option linter.unusedSimpArgs false in
set_option maxRecDepth 100000 in
set_option maxHeartbeats 24000000 in
theorem rmixed_some (f : Nat → Wn) (b off n cp : Nat) (w : World) (h0 : 0 < n) (hn : n ≤ 8) (hc : ∀ i j, i < n → j < 6 → w.cell? ⟨b, off + i * 6 + j, none⟩ = some (.int .i64 ((f i).at j))) :
    Calls Try.prog 11 #[.slice (some ⟨b, off, none⟩) n cp] w fun e w' => e = .returned (mixR f n) ∧ Below w.heap.size w w' := by
  have HC := Lib.hid hc
  have hbs : b < w.heap.size := World.block_lt_of_cell? w _ (hc 0 0 h0 (by decide))
  clear hc
  obtain ⟨i0, hi, hz0, hz1, hz2⟩ := info_parts rangeInfo
  have hn1 : (0 : Int) < (n : Int) := by omega
  have hn2 : (n : Int) ≤ 8 := by omega
  have hn3 : ((n : Int) == 0) = false := by simp; omega
  go_enter Try.func11, Try.ntmps11
  go_upto_region 8 with fail
  obtain ⟨B0, hB0⟩ : ∃ B, w.heap.size = B := ⟨_, rfl⟩
  rw [hB0]
  rw [hB0] at hbs
  refine nameWorld (fun w' => w'.cell? ⟨B0, 0, none⟩ = some (.int .i64 0) ∧ w'.cell? ⟨B0, 1, none⟩ = some (.int .i64 0) ∧ w'.cell? ⟨B0, 2, none⟩ = some (.int .i64 0) ∧ w'.cell? ⟨B0, 3, none⟩ = some (.int .i64 0) ∧ w'.cell? ⟨B0, 4, none⟩ = some (.int .i64 0) ∧ w'.cell? ⟨B0, 5, none⟩ = some (.int .i64 0) ∧ w'.frozen? ⟨B0, 0, none⟩ = false ∧ w'.frozen? ⟨B0, 1, none⟩ = false ∧ w'.frozen? ⟨B0, 2, none⟩ = false ∧ w'.frozen? ⟨B0, 3, none⟩ = false ∧ w'.frozen? ⟨B0, 4, none⟩ = false ∧ w'.frozen? ⟨B0, 5, none⟩ = false ∧ w'.cell? ⟨B0 + 1, 0, none⟩ = some (.int .i64 0) ∧ w'.cell? ⟨B0 + 1, 1, none⟩ = some (.int .i64 0) ∧ w'.cell? ⟨B0 + 1, 2, none⟩ = some (.int .i64 0) ∧ w'.cell? ⟨B0 + 1, 3, none⟩ = some (.int .i64 0) ∧ w'.cell? ⟨B0 + 1, 4, none⟩ = some (.int .i64 0) ∧ w'.cell? ⟨B0 + 1, 5, none⟩ = some (.int .i64 0) ∧ w'.frozen? ⟨B0 + 1, 0, none⟩ = false ∧ w'.frozen? ⟨B0 + 1, 1, none⟩ = false ∧ w'.frozen? ⟨B0 + 1, 2, none⟩ = false ∧ w'.frozen? ⟨B0 + 1, 3, none⟩ = false ∧ w'.frozen? ⟨B0 + 1, 4, none⟩ = false ∧ w'.frozen? ⟨B0 + 1, 5, none⟩ = false ∧ B0 + 1 + 1 ≤ w'.heap.size ∧ Below B0 w w') ?_ (fun wc hc => ?_)
  · rw [← hB0]
    have ha := (Below.refl _ (w.alloc (.cells #[.int .i64 0, .int .i64 0, .int .i64 0, .int .i64 0, .int .i64 0, .int .i64 0] 27))).alloc (Nat.le_refl _) (.cells #[.int .i64 0, .int .i64 0, .int .i64 0, .int .i64 0, .int .i64 0, .int .i64 0] 27)
    exact ⟨(newBoth rfl ha 0 _ rfl).1, (newBoth rfl ha 1 _ rfl).1, (newBoth rfl ha 2 _ rfl).1, (newBoth rfl ha 3 _ rfl).1, (newBoth rfl ha 4 _ rfl).1, (newBoth rfl ha 5 _ rfl).1, (newBoth rfl ha 0 _ rfl).2, (newBoth rfl ha 1 _ rfl).2, (newBoth rfl ha 2 _ rfl).2, (newBoth rfl ha 3 _ rfl).2, (newBoth rfl ha 4 _ rfl).2, (newBoth rfl ha 5 _ rfl).2, (newBoth (by rw [World.size_alloc]) (Below.refl _ _) 0 _ rfl).1, (newBoth (by rw [World.size_alloc]) (Below.refl _ _) 1 _ rfl).1, (newBoth (by rw [World.size_alloc]) (Below.refl _ _) 2 _ rfl).1, (newBoth (by rw [World.size_alloc]) (Below.refl _ _) 3 _ rfl).1, (newBoth (by rw [World.size_alloc]) (Below.refl _ _) 4 _ rfl).1, (newBoth (by rw [World.size_alloc]) (Below.refl _ _) 5 _ rfl).1, (newBoth (by rw [World.size_alloc]) (Below.refl _ _) 0 _ rfl).2, (newBoth (by rw [World.size_alloc]) (Below.refl _ _) 1 _ rfl).2, (newBoth (by rw [World.size_alloc]) (Below.refl _ _) 2 _ rfl).2, (newBoth (by rw [World.size_alloc]) (Below.refl _ _) 3 _ rfl).2, (newBoth (by rw [World.size_alloc]) (Below.refl _ _) 4 _ rfl).2, (newBoth (by rw [World.size_alloc]) (Below.refl _ _) 5 _ rfl).2, by simp, by go_grown⟩
  obtain ⟨r0, r1, r2, r3, r4, r5, rz0, rz1, rz2, rz3, rz4, rz5, p0, p1, p2, p3, p4, p5, pz0, pz1, pz2, pz3, pz4, pz5, hsz, hB⟩ := hc
  go_loopw [8, 5, 6, 7] (fun i s5 s6 s7 wr => ∃ (k : Nat) (v5 v6 v7 : Value), (k ≤ n ∧ i = .int .i64 k ∧ s5 = v5 ∧ s6 = v6 ∧ s7 = v7) ∧ Hid (mixB f n 0 = mixB f (n - k) k ∧ ∀ j, j < k → (f j).err = 0) ∧ B0 + 1 + 1 ≤ wr.heap.size ∧ wr.cell? ⟨B0, 0, none⟩ = some (.int .i64 0) ∧ wr.cell? ⟨B0, 1, none⟩ = some (.int .i64 0) ∧ wr.cell? ⟨B0, 2, none⟩ = some (.int .i64 0) ∧ wr.cell? ⟨B0, 3, none⟩ = some (.int .i64 0) ∧ wr.cell? ⟨B0, 4, none⟩ = some (.int .i64 0) ∧ wr.cell? ⟨B0, 5, none⟩ = some (.int .i64 0) ∧ wr.frozen? ⟨B0, 0, none⟩ = false ∧ wr.frozen? ⟨B0, 1, none⟩ = false ∧ wr.frozen? ⟨B0, 2, none⟩ = false ∧ wr.frozen? ⟨B0, 3, none⟩ = false ∧ wr.frozen? ⟨B0, 4, none⟩ = false ∧ wr.frozen? ⟨B0, 5, none⟩ = false ∧ wr.cell? ⟨B0 + 1, 0, none⟩ = some (.int .i64 (vLo f k)) ∧ wr.cell? ⟨B0 + 1, 1, none⟩ = some (.int .i64 (vHi f k)) ∧ wr.cell? ⟨B0 + 1, 2, none⟩ = some (.int .i64 0) ∧ wr.cell? ⟨B0 + 1, 3, none⟩ = some (.int .i64 0) ∧ wr.cell? ⟨B0 + 1, 4, none⟩ = some (.int .i64 0) ∧ wr.cell? ⟨B0 + 1, 5, none⟩ = some (.int .i64 0) ∧ wr.frozen? ⟨B0 + 1, 0, none⟩ = false ∧ wr.frozen? ⟨B0 + 1, 1, none⟩ = false ∧ wr.frozen? ⟨B0 + 1, 2, none⟩ = false ∧ wr.frozen? ⟨B0 + 1, 3, none⟩ = false ∧ wr.frozen? ⟨B0 + 1, 4, none⟩ = false ∧ wr.frozen? ⟨B0 + 1, 5, none⟩ = false ∧ Hid (Rows3 25 f (B0 + 1 + 1) k v5 v6 v7 wr) ∧ Below B0 w wr)
    (fun i _ _ _ _ => n - (intOf i).toNat)
  case atStart =>
    exact ⟨0, _, _, _, ⟨Nat.zero_le _, rfl, rfl, rfl, rfl⟩, Lib.hid ⟨rfl, fun j h => absurd h (Nat.not_lt_zero _)⟩, hsz, r0, r1, r2, r3, r4, r5, rz0, rz1, rz2, rz3, rz4, rz5, p0, p1, p2, p3, p4, p5, pz0, pz1, pz2, pz3, pz4, pz5, Lib.hid ⟨fun m hm => (by match m, hm with
      | 0, _ => exact World.ownsRow_nil _ _ _ _
      | 1, _ => exact World.ownsRow_nil _ _ _ _
      | 2, _ => exact World.ownsRow_nil _ _ _ _), fun m l hm hl hne d hd => (by match m, hm with
      | 0, _ => cases hd
      | 1, _ => cases hd
      | 2, _ => cases hd)⟩, hB⟩
  case round =>
    clear r0 r1 r2 r3 r4 r5 rz0 rz1 rz2 rz3 rz4 rz5 p0 p1 p2 p3 p4 p5 pz0 pz1 pz2 pz3 pz4 pz5 hsz hB
    obtain ⟨k, v5, v6, v7, ⟨hk, rfl, rfl, rfl, rfl⟩, HE, hsz, r0, r1, r2, r3, r4, r5, rz0, rz1, rz2, rz3, rz4, rz5, p0, p1, p2, p3, p4, p5, pz0, pz1, pz2, pz3, pz4, pz5, HRW, hB⟩ := hrel
    by_cases hlt : k < n
    · obtain ⟨⟨x0, x1, x2, x3, x4, x5⟩, hx⟩ : ∃ x, f k = x := ⟨_, rfl⟩
      have d0 := keepC (show Below w.heap.size w wr by rw [hB0]; exact hB) (HC.out k 0 hlt (by decide))
      rw [hx] at d0
      rw [Nat.add_zero] at d0
      dsimp only [Wn.at] at d0
      have d1 := keepC (show Below w.heap.size w wr by rw [hB0]; exact hB) (HC.out k 1 hlt (by decide))
      rw [hx] at d1
      dsimp only [Wn.at] at d1
      have d2 := keepC (show Below w.heap.size w wr by rw [hB0]; exact hB) (HC.out k 2 hlt (by decide))
      rw [hx] at d2
      dsimp only [Wn.at] at d2
      have d3 := keepC (show Below w.heap.size w wr by rw [hB0]; exact hB) (HC.out k 3 hlt (by decide))
      rw [hx] at d3
      dsimp only [Wn.at] at d3
      have d4 := keepC (show Below w.heap.size w wr by rw [hB0]; exact hB) (HC.out k 4 hlt (by decide))
      rw [hx] at d4
      dsimp only [Wn.at] at d4
      have d5 := keepC (show Below w.heap.size w wr by rw [hB0]; exact hB) (HC.out k 5 hlt (by decide))
      rw [hx] at d5
      dsimp only [Wn.at] at d5
      obtain ⟨ee, hee⟩ : ∃ e, wineE x0 x1 x2 x3 x4 x5 = e := ⟨_, rfl⟩
      have HS : Hid (mixB f (n - k) k = if ee = 0 then mixB f (n - (k + 1)) (k + 1) else ee) := Lib.hid (by have := mixB_step f n k hlt; rw [hx] at this; rw [← hee]; exact this)
      have HE0 := Lib.hid hee
      have HX := Lib.hid hx
      obtain ⟨VL, hVL⟩ : ∃ x, vLo f k = x := ⟨_, rfl⟩
      obtain ⟨VH, hVH⟩ : ∃ x, vHi f k = x := ⟨_, rfl⟩
      have hvb := vLo_bd HE.out.2 k (Nat.le_refl _)
      rw [hVL, hVH] at hvb
      rw [hVL] at p0
      rw [hVH] at p1
      have HVL : Hid (vLo f (k + 1) = VL + x0) := Lib.hid (by rw [vLo, hVL, hx])
      have HVH : Hid (vHi f (k + 1) = VH + x1) := Lib.hid (by rw [vHi, hVH, hx])
      clear hx hee hVL hVH
      have hk0 : (0 : Int) ≤ (k : Int) := by omega
      have hk1 : (k : Int) < (n : Int) := by omega
      go_upto_region 11 with (go_at_call 12; refine (checkWine_any _ _ _ _ _ _ _).mono ?_; rintro e w1 ⟨rfl, hb1⟩; rw [HE0.out])
      refine nameWorld (fun w' => B0 + 1 + 1 ≤ w'.heap.size ∧ w'.cell? ⟨b, off + k * 6, none⟩ = some (.int .i64 x0) ∧ w'.cell? ⟨b, off + k * 6 + 1, none⟩ = some (.int .i64 x1) ∧ w'.cell? ⟨b, off + k * 6 + 2, none⟩ = some (.int .i64 x2) ∧ w'.cell? ⟨b, off + k * 6 + 3, none⟩ = some (.int .i64 x3) ∧ w'.cell? ⟨b, off + k * 6 + 4, none⟩ = some (.int .i64 x4) ∧ w'.cell? ⟨b, off + k * 6 + 5, none⟩ = some (.int .i64 x5) ∧ w'.cell? ⟨B0, 0, none⟩ = some (.int .i64 0) ∧ w'.cell? ⟨B0, 1, none⟩ = some (.int .i64 0) ∧ w'.cell? ⟨B0, 2, none⟩ = some (.int .i64 0) ∧ w'.cell? ⟨B0, 3, none⟩ = some (.int .i64 0) ∧ w'.cell? ⟨B0, 4, none⟩ = some (.int .i64 0) ∧ w'.cell? ⟨B0, 5, none⟩ = some (.int .i64 0) ∧ w'.frozen? ⟨B0, 0, none⟩ = false ∧ w'.frozen? ⟨B0, 1, none⟩ = false ∧ w'.frozen? ⟨B0, 2, none⟩ = false ∧ w'.frozen? ⟨B0, 3, none⟩ = false ∧ w'.frozen? ⟨B0, 4, none⟩ = false ∧ w'.frozen? ⟨B0, 5, none⟩ = false ∧ w'.cell? ⟨B0 + 1, 0, none⟩ = some (.int .i64 VL) ∧ w'.cell? ⟨B0 + 1, 1, none⟩ = some (.int .i64 VH) ∧ w'.cell? ⟨B0 + 1, 2, none⟩ = some (.int .i64 0) ∧ w'.cell? ⟨B0 + 1, 3, none⟩ = some (.int .i64 0) ∧ w'.cell? ⟨B0 + 1, 4, none⟩ = some (.int .i64 0) ∧ w'.cell? ⟨B0 + 1, 5, none⟩ = some (.int .i64 0) ∧ w'.frozen? ⟨B0 + 1, 0, none⟩ = false ∧ w'.frozen? ⟨B0 + 1, 1, none⟩ = false ∧ w'.frozen? ⟨B0 + 1, 2, none⟩ = false ∧ w'.frozen? ⟨B0 + 1, 3, none⟩ = false ∧ w'.frozen? ⟨B0 + 1, 4, none⟩ = false ∧ w'.frozen? ⟨B0 + 1, 5, none⟩ = false ∧ Hid (Rows3 25 f (B0 + 1 + 1) k u5 u6 u7 w') ∧ Below B0 w w') ⟨Nat.le_trans hsz hb1.size, keepC hb1 d0, keepC hb1 d1, keepC hb1 d2, keepC hb1 d3, keepC hb1 d4, keepC hb1 d5, keepC hb1 r0, keepC hb1 r1, keepC hb1 r2, keepC hb1 r3, keepC hb1 r4, keepC hb1 r5, keepF hb1 r0 rz0, keepF hb1 r1 rz1, keepF hb1 r2 rz2, keepF hb1 r3 rz3, keepF hb1 r4 rz4, keepF hb1 r5 rz5, keepC hb1 p0, keepC hb1 p1, keepC hb1 p2, keepC hb1 p3, keepC hb1 p4, keepC hb1 p5, keepF hb1 p0 pz0, keepF hb1 p1 pz1, keepF hb1 p2 pz2, keepF hb1 p3 pz3, keepF hb1 p4 pz4, keepF hb1 p5 pz5, Lib.hid (HRW.out.kept hb1), hB.trans (hb1.mono (by omega))⟩ (fun wc hc => ?_)
      clear hb1 hsz d0 d1 d2 d3 d4 d5 r0 r1 r2 r3 r4 r5 rz0 rz1 rz2 rz3 rz4 rz5 p0 p1 p2 p3 p4 p5 pz0 pz1 pz2 pz3 pz4 pz5 HRW hB
      obtain ⟨hsz, d0, d1, d2, d3, d4, d5, r0, r1, r2, r3, r4, r5, rz0, rz1, rz2, rz3, rz4, rz5, p0, p1, p2, p3, p4, p5, pz0, pz1, pz2, pz3, pz4, pz5, HRW, hB⟩ := hc
      by_cases hz : ee = 0
      · have hnz : (ee != 0) = false := by rw [hz]; rfl
        obtain ⟨⟨X0, X1, X2⟩, -, -⟩ := wineE_zero.1 (HE0.out.trans hz)
        have HD := Lib.hid hz
        clear hz
        have u0 : IntKind.i64.wrap (VL + x0) = VL + x0 := IntWalk.i64_in _ (by omega)
        have u1 : IntKind.i64.wrap (VH + x1) = VH + x1 := IntWalk.i64_in _ (by omega)
        clear hvb
        go_wp2_with fail
        refine regionX 22 0 [20] [] (by kernel_rfl) (by kernel_rfl) (by kernel_rfl) (by kernel_rfl) (by decide) (fun _ _ d _ _ h => by cases d <;> exact h) ?_
        intro R hR
        simp only [List.take_succ_cons, List.take_zero]
        iterate 22 (first | (refine headP_val ?_ (by rfl) (by rfl) (fun w' hw' => ?_) ?_; rotate_left; (focus (have y0 := keepC hw' p0; have y1 := keepC hw' p1; have y2 := keepC hw' d0; have y3 := keepC hw' d1; first | (refine onlyMakes_val ?_; first | (go_simp; done) | (go_simp; with_reducible rfl)) | fail)); (try dsimp only); (try simp only [Act.put, List.setIfInBounds_toArray, List.set_cons_zero, List.set_cons_succ])) | (refine headP_pure ?_ (by rfl) (by rfl) (fun w' => ?_) ?_; rotate_left; (focus ((first | (go_simp; done) | (go_simp; with_reducible rfl)))); (try dsimp only); (try simp only [Act.put, List.setIfInBounds_toArray, List.set_cons_zero, List.set_cons_succ])) | (refine headP_skip (by rfl) ?_; (try dsimp only); (try simp only [Act.put, List.setIfInBounds_toArray, List.set_cons_zero, List.set_cons_succ])))
        refine headP_nil (hR.out _ ?_)
        refine AnyZ.last 22 (by kernel_rfl) (by decide) (fun w2 hw2 => ?_)
        refine wpAny_one 22 (by kernel_rfl) rfl rfl ?_
        have d0 := keepC hw2 d0
        have d1 := keepC hw2 d1
        have d2 := keepC hw2 d2
        have d3 := keepC hw2 d3
        have d4 := keepC hw2 d4
        have d5 := keepC hw2 d5
        have gr0 := keepC hw2 r0
        have gr1 := keepC hw2 r1
        have gr2 := keepC hw2 r2
        have gr3 := keepC hw2 r3
        have gr4 := keepC hw2 r4
        have gr5 := keepC hw2 r5
        have gp0 := keepC hw2 p0
        have gp1 := keepC hw2 p1
        have gp2 := keepC hw2 p2
        have gp3 := keepC hw2 p3
        have gp4 := keepC hw2 p4
        have gp5 := keepC hw2 p5
        have grz0 := keepF hw2 r0 rz0
        have grz1 := keepF hw2 r1 rz1
        have grz2 := keepF hw2 r2 rz2
        have grz3 := keepF hw2 r3 rz3
        have grz4 := keepF hw2 r4 rz4
        have grz5 := keepF hw2 r5 rz5
        have gpz0 := keepF hw2 p0 pz0
        have gpz1 := keepF hw2 p1 pz1
        have gpz2 := keepF hw2 p2 pz2
        have gpz3 := keepF hw2 p3 pz3
        have gpz4 := keepF hw2 p4 pz4
        have gpz5 := keepF hw2 p5 pz5
        have HRW := Lib.hid (HRW.out.kept hw2)
        have hB := hB.trans (hw2.mono (by omega))
        have hsz := Nat.le_trans hsz hw2.size
        clear hR hw2 r0 r1 r2 r3 r4 r5 p0 p1 p2 p3 p4 p5 rz0 rz1 rz2 rz3 rz4 rz5 pz0 pz1 pz2 pz3 pz4 pz5
        have r0 := gr0
        have r1 := gr1
        have r2 := gr2
        have r3 := gr3
        have r4 := gr4
        have r5 := gr5
        have p0 := gp0
        have p1 := gp1
        have p2 := gp2
        have p3 := gp3
        have p4 := gp4
        have p5 := gp5
        have rz0 := grz0
        have rz1 := grz1
        have rz2 := grz2
        have rz3 := grz3
        have rz4 := grz4
        have rz5 := grz5
        have pz0 := gpz0
        have pz1 := gpz1
        have pz2 := gpz2
        have pz3 := gpz3
        have pz4 := gpz4
        have pz5 := gpz5
        clear gr0 gr1 gr2 gr3 gr4 gr5 gp0 gp1 gp2 gp3 gp4 gp5 grz0 grz1 grz2 grz3 grz4 grz5 gpz0 gpz1 gpz2 gpz3 gpz4 gpz5
        (try simp only [List.getElem_toArray, List.getElem_cons_succ, List.getElem_cons_zero])
        (try simp only [Act.put, List.setIfInBounds_toArray, List.set_cons_succ, List.set_cons_zero])
        unfold Oper.wp
        go_simp
        refine wpAny_done (by kernel_rfl) ?_
        go_upto_region 14 with fail
        obtain ⟨c0, c1⟩ := set2 p0 p1 (.int .i64 (VL + x0)) (.int .i64 (VH + x1))
        refine nameWorld (fun w' => B0 + 1 + 1 ≤ w'.heap.size ∧ w'.cell? ⟨b, off + k * 6, none⟩ = some (.int .i64 x0) ∧ w'.cell? ⟨b, off + k * 6 + 1, none⟩ = some (.int .i64 x1) ∧ w'.cell? ⟨b, off + k * 6 + 2, none⟩ = some (.int .i64 x2) ∧ w'.cell? ⟨b, off + k * 6 + 3, none⟩ = some (.int .i64 x3) ∧ w'.cell? ⟨b, off + k * 6 + 4, none⟩ = some (.int .i64 x4) ∧ w'.cell? ⟨b, off + k * 6 + 5, none⟩ = some (.int .i64 x5) ∧ w'.cell? ⟨B0, 0, none⟩ = some (.int .i64 0) ∧ w'.cell? ⟨B0, 1, none⟩ = some (.int .i64 0) ∧ w'.cell? ⟨B0, 2, none⟩ = some (.int .i64 0) ∧ w'.cell? ⟨B0, 3, none⟩ = some (.int .i64 0) ∧ w'.cell? ⟨B0, 4, none⟩ = some (.int .i64 0) ∧ w'.cell? ⟨B0, 5, none⟩ = some (.int .i64 0) ∧ w'.frozen? ⟨B0, 0, none⟩ = false ∧ w'.frozen? ⟨B0, 1, none⟩ = false ∧ w'.frozen? ⟨B0, 2, none⟩ = false ∧ w'.frozen? ⟨B0, 3, none⟩ = false ∧ w'.frozen? ⟨B0, 4, none⟩ = false ∧ w'.frozen? ⟨B0, 5, none⟩ = false ∧ w'.cell? ⟨B0 + 1, 0, none⟩ = some (.int .i64 (VL + x0)) ∧ w'.cell? ⟨B0 + 1, 1, none⟩ = some (.int .i64 (VH + x1)) ∧ w'.cell? ⟨B0 + 1, 2, none⟩ = some (.int .i64 0) ∧ w'.cell? ⟨B0 + 1, 3, none⟩ = some (.int .i64 0) ∧ w'.cell? ⟨B0 + 1, 4, none⟩ = some (.int .i64 0) ∧ w'.cell? ⟨B0 + 1, 5, none⟩ = some (.int .i64 0) ∧ w'.frozen? ⟨B0 + 1, 0, none⟩ = false ∧ w'.frozen? ⟨B0 + 1, 1, none⟩ = false ∧ w'.frozen? ⟨B0 + 1, 2, none⟩ = false ∧ w'.frozen? ⟨B0 + 1, 3, none⟩ = false ∧ w'.frozen? ⟨B0 + 1, 4, none⟩ = false ∧ w'.frozen? ⟨B0 + 1, 5, none⟩ = false ∧ Hid (Rows3 25 f (B0 + 1 + 1) k u5 u6 u7 w') ∧ Below B0 w w') ?_ (fun wd hd => ?_)
        · have oth : ∀ s i, (s ≠ B0 + 1 ∨ (i ≠ 0 ∧ i ≠ 1)) → ((w2.setCell ⟨B0 + 1, 0, none⟩ (.int .i64 (VL + x0))).setCell ⟨B0 + 1, 1, none⟩ (.int .i64 (VH + x1))).cell? ⟨s, i, none⟩ = w2.cell? ⟨s, i, none⟩ := fun s i h =>
            (World.cell?_setCell_other _ _ _ _ (by intro e; injection e with e1 e2; rcases h with h | ⟨h1, h2⟩; exact h e1.symm; exact h2 e2.symm)).trans (World.cell?_setCell_other _ _ _ _ (by intro e; injection e with e1 e2; rcases h with h | ⟨h1, h2⟩; exact h e1.symm; exact h1 e2.symm))
          have fz : ∀ p, ((w2.setCell ⟨B0 + 1, 0, none⟩ (.int .i64 (VL + x0))).setCell ⟨B0 + 1, 1, none⟩ (.int .i64 (VH + x1))).frozen? p = w2.frozen? p := fun p => by rw [World.frozen?_setCell, World.frozen?_setCell]
          exact ⟨by rw [World.size_setCell, World.size_setCell]; exact hsz, (oth _ _ (.inl (by omega))).trans d0, (oth _ _ (.inl (by omega))).trans d1, (oth _ _ (.inl (by omega))).trans d2, (oth _ _ (.inl (by omega))).trans d3, (oth _ _ (.inl (by omega))).trans d4, (oth _ _ (.inl (by omega))).trans d5, (oth _ _ (.inl (by omega))).trans r0, (oth _ _ (.inl (by omega))).trans r1, (oth _ _ (.inl (by omega))).trans r2, (oth _ _ (.inl (by omega))).trans r3, (oth _ _ (.inl (by omega))).trans r4, (oth _ _ (.inl (by omega))).trans r5, (fz _).trans rz0, (fz _).trans rz1, (fz _).trans rz2, (fz _).trans rz3, (fz _).trans rz4, (fz _).trans rz5, c0, c1, (oth _ _ (.inr (by decide))).trans p2, (oth _ _ (.inr (by decide))).trans p3, (oth _ _ (.inr (by decide))).trans p4, (oth _ _ (.inr (by decide))).trans p5, (fz _).trans pz0, (fz _).trans pz1, (fz _).trans pz2, (fz _).trans pz3, (fz _).trans pz4, (fz _).trans pz5, Lib.hid ⟨fun m hm => ownsRow_setCell_below (ownsRow_setCell_below (HRW.out.1 m hm) (by show B0 + 1 < B0 + 1 + 1; omega) _) (by show B0 + 1 < B0 + 1 + 1; omega) _, HRW.out.2⟩, (hB.setCell (by show B0 ≤ B0 + 1; omega) _).setCell (by show B0 ≤ B0 + 1; omega) _⟩
        clear c0 c1 hsz d0 d1 d2 d3 d4 d5 r0 r1 r2 r3 r4 r5 rz0 rz1 rz2 rz3 rz4 rz5 p0 p1 p2 p3 p4 p5 pz0 pz1 pz2 pz3 pz4 pz5 HRW hB
        obtain ⟨hsz, d0, d1, d2, d3, d4, d5, r0, r1, r2, r3, r4, r5, rz0, rz1, rz2, rz3, rz4, rz5, p0, p1, p2, p3, p4, p5, pz0, pz1, pz2, pz3, pz4, pz5, HRW, hB⟩ := hd
        have fin : ∀ (wn : World) (s0 s1 s2 : Value), Below (B0 + 1 + 1) wd wn → B0 + 1 + 1 ≤ wn.heap.size → Rows3 25 f (B0 + 1 + 1) (k + 1) s0 s1 s2 wn → Hid (mixB f n 0 = mixB f (n - (k + 1)) (k + 1) ∧ ∀ j, j < k + 1 → (f j).err = 0) ∧ B0 + 1 + 1 ≤ wn.heap.size ∧ wn.cell? ⟨B0, 0, none⟩ = some (.int .i64 0) ∧ wn.cell? ⟨B0, 1, none⟩ = some (.int .i64 0) ∧ wn.cell? ⟨B0, 2, none⟩ = some (.int .i64 0) ∧ wn.cell? ⟨B0, 3, none⟩ = some (.int .i64 0) ∧ wn.cell? ⟨B0, 4, none⟩ = some (.int .i64 0) ∧ wn.cell? ⟨B0, 5, none⟩ = some (.int .i64 0) ∧ wn.frozen? ⟨B0, 0, none⟩ = false ∧ wn.frozen? ⟨B0, 1, none⟩ = false ∧ wn.frozen? ⟨B0, 2, none⟩ = false ∧ wn.frozen? ⟨B0, 3, none⟩ = false ∧ wn.frozen? ⟨B0, 4, none⟩ = false ∧ wn.frozen? ⟨B0, 5, none⟩ = false ∧ wn.cell? ⟨B0 + 1, 0, none⟩ = some (.int .i64 (vLo f (k + 1))) ∧ wn.cell? ⟨B0 + 1, 1, none⟩ = some (.int .i64 (vHi f (k + 1))) ∧ wn.cell? ⟨B0 + 1, 2, none⟩ = some (.int .i64 0) ∧ wn.cell? ⟨B0 + 1, 3, none⟩ = some (.int .i64 0) ∧ wn.cell? ⟨B0 + 1, 4, none⟩ = some (.int .i64 0) ∧ wn.cell? ⟨B0 + 1, 5, none⟩ = some (.int .i64 0) ∧ wn.frozen? ⟨B0 + 1, 0, none⟩ = false ∧ wn.frozen? ⟨B0 + 1, 1, none⟩ = false ∧ wn.frozen? ⟨B0 + 1, 2, none⟩ = false ∧ wn.frozen? ⟨B0 + 1, 3, none⟩ = false ∧ wn.frozen? ⟨B0 + 1, 4, none⟩ = false ∧ wn.frozen? ⟨B0 + 1, 5, none⟩ = false ∧ Hid (Rows3 25 f (B0 + 1 + 1) (k + 1) s0 s1 s2 wn) ∧ Below B0 w wn := fun wn s0 s1 s2 hb hs hR => by
          have hC : ∀ s i, s < B0 + 1 + 1 → wn.cell? ⟨s, i, none⟩ = wd.cell? ⟨s, i, none⟩ := fun s i h => hb.cell (p := ⟨s, i, none⟩) h
          have hF : ∀ s i, s < B0 + 1 + 1 → wn.frozen? ⟨s, i, none⟩ = wd.frozen? ⟨s, i, none⟩ := fun s i h => hb.frozen (p := ⟨s, i, none⟩) h
          have e1 := HE.out.1
          have e2 := HS.out
          rw [if_pos HD.out] at e2
          exact ⟨Lib.hid ⟨e1.trans e2, fun j hj => by by_cases e : j = k; (rw [e, HX.out]; show wineE _ _ _ _ _ _ = 0; rw [HE0.out, HD.out]); exact HE.out.2 j (by omega)⟩, hs, (hC _ _ (by omega)).trans r0, (hC _ _ (by omega)).trans r1, (hC _ _ (by omega)).trans r2, (hC _ _ (by omega)).trans r3, (hC _ _ (by omega)).trans r4, (hC _ _ (by omega)).trans r5, (hF _ _ (by omega)).trans rz0, (hF _ _ (by omega)).trans rz1, (hF _ _ (by omega)).trans rz2, (hF _ _ (by omega)).trans rz3, (hF _ _ (by omega)).trans rz4, (hF _ _ (by omega)).trans rz5, by rw [HVL.out]; exact (hC _ _ (by omega)).trans p0, by rw [HVH.out]; exact (hC _ _ (by omega)).trans p1, (hC _ _ (by omega)).trans p2, (hC _ _ (by omega)).trans p3, (hC _ _ (by omega)).trans p4, (hC _ _ (by omega)).trans p5, (hF _ _ (by omega)).trans pz0, (hF _ _ (by omega)).trans pz1, (hF _ _ (by omega)).trans pz2, (hF _ _ (by omega)).trans pz3, (hF _ _ (by omega)).trans pz4, (hF _ _ (by omega)).trans pz5, Lib.hid hR, hB.trans (hb.mono (by omega))⟩
        have HFIN := Lib.hid fin
        have hSt := (HRW.out.st hsz (fun m => loW m ⟨x0, x1, x2, x3, x4, x5⟩) (fun m => hiW m ⟨x0, x1, x2, x3, x4, x5⟩)).drew
        have hD : Hid (∀ w' : World, Below (B0 + 1 + 1) wd w' → w'.cell? ⟨b, off + k * 6, none⟩ = some (.int .i64 x0) ∧ w'.cell? ⟨b, off + k * 6 + 1, none⟩ = some (.int .i64 x1) ∧ w'.cell? ⟨b, off + k * 6 + 2, none⟩ = some (.int .i64 x2) ∧ w'.cell? ⟨b, off + k * 6 + 3, none⟩ = some (.int .i64 x3) ∧ w'.cell? ⟨b, off + k * 6 + 4, none⟩ = some (.int .i64 x4) ∧ w'.cell? ⟨b, off + k * 6 + 5, none⟩ = some (.int .i64 x5)) := Lib.hid (fun w' hw' => ⟨(hw'.cell (p := ⟨b, off + k * 6, none⟩) (by show b < B0 + 1 + 1; omega)).trans d0, (hw'.cell (p := ⟨b, off + k * 6 + 1, none⟩) (by show b < B0 + 1 + 1; omega)).trans d1, (hw'.cell (p := ⟨b, off + k * 6 + 2, none⟩) (by show b < B0 + 1 + 1; omega)).trans d2, (hw'.cell (p := ⟨b, off + k * 6 + 3, none⟩) (by show b < B0 + 1 + 1; omega)).trans d3, (hw'.cell (p := ⟨b, off + k * 6 + 4, none⟩) (by show b < B0 + 1 + 1; omega)).trans d4, (hw'.cell (p := ⟨b, off + k * 6 + 5, none⟩) (by show b < B0 + 1 + 1; omega)).trans d5⟩)
        have hkn : k ≤ 100 := by omega
        clear fin d0 d1 d2 d3 d4 d5 r0 r1 r2 r3 r4 r5 rz0 rz1 rz2 rz3 rz4 rz5 p0 p1 p2 p3 p4 p5 pz0 pz1 pz2 pz3 pz4 pz5 HRW hB
        refine regionL [true, true, true, true, true, true, false, false, true, true, true, true, true, true, false, false, true, true, true, true, true, true, false, false, false, false, false] 27 9 (fun w' => Below (B0 + 1 + 1) wd w') kindM (by kernel_rfl) (by kernel_rfl) (by kernel_rfl) (by decide) ?_
        intro R hR
        simp only [keptOps]
        iterate 18 (refine headL_val ?_ (by rfl) (fun w' hw' => ?_) ?_; rotate_left; (focus (obtain ⟨y0, y1, y2, y3, y4, y5⟩ := hD.out w' hw'; first | (go_simp; done) | (go_simp; with_reducible rfl))); (try dsimp only); (try simp only [Act.put, List.setIfInBounds_toArray, List.set_cons_zero, List.set_cons_succ]))
        refine headL_nil (hR.out _ ?_)
        clear hR
        generalize wd.drew = wn at hSt ⊢
        refine AnyG.hideQ (fun Q' HQ => ?_)
        refine AnyG.three 6 14 22 (by kernel_rfl) hSt.below rfl rfl rfl rfl rfl rfl ?_ ?_ ?_
        · refine ⟨.slice (some ⟨wn.heap.size, 0, none⟩) 1 1, wn.alloc (.cells #[.int .i64 x0, .int .i64 x1] 25), ⟨by rfl, by first | (go_simp; done) | (go_simp; with_reducible rfl)⟩, ?_⟩
          have hSt := hSt.build 0
          change St _ _ _ _ _ _ _ _ _ (wn.alloc (.cells #[.int .i64 x0, .int .i64 x1] 25)) at hSt
          generalize wn.heap.size = b0 at hSt ⊢
          generalize wn.alloc (.cells #[.int .i64 x0, .int .i64 x1] 25) = wn at hSt ⊢
          (try simp only [Act.put, List.setIfInBounds_toArray, List.set_cons_zero, List.set_cons_succ])
          refine AnyG.three 7 14 22 (by kernel_rfl) hSt.below rfl rfl rfl rfl rfl rfl ?_ ?_ ?_
          · obtain ⟨g0, cap0, w9, hrun, hSt⟩ := hSt.append 0 b0 (by decide) (P := Try.prog) (t := 81) (ty := 81) rfl Try.underlying81 hi hz0 hz1 hz2 rfl hkn
            simp only [upd, v3, Nat.reduceEqDiff, Nat.zero_ne_one, Nat.one_ne_zero, reduceIte] at hrun
            refine ⟨.slice (some ⟨g0, 0, none⟩) (k + 1) cap0, w9, ?_, ?_⟩
            · apply StepG.append (v := u5) (u := .slice (some ⟨b0, 0, none⟩) 1 1)
              · rfl
              · kernel_rfl
              · kernel_rfl
              · kernel_rfl
              · exact hrun
            (try simp only [Act.put, List.setIfInBounds_toArray, List.set_cons_zero, List.set_cons_succ])
            clear hrun
            refine AnyG.two 14 22 (by kernel_rfl) hSt.below rfl rfl rfl rfl ?_ ?_
            · refine ⟨.slice (some ⟨w9.heap.size, 0, none⟩) 1 1, w9.alloc (.cells #[.int .i64 x2, .int .i64 x3] 25), ⟨by rfl, by first | (go_simp; done) | (go_simp; with_reducible rfl)⟩, ?_⟩
              have hSt := hSt.build 1
              change St _ _ _ _ _ _ _ _ _ (w9.alloc (.cells #[.int .i64 x2, .int .i64 x3] 25)) at hSt
              generalize w9.heap.size = b1 at hSt ⊢
              generalize w9.alloc (.cells #[.int .i64 x2, .int .i64 x3] 25) = w9 at hSt ⊢
              (try simp only [Act.put, List.setIfInBounds_toArray, List.set_cons_zero, List.set_cons_succ])
              refine AnyG.two 15 22 (by kernel_rfl) hSt.below rfl rfl rfl rfl ?_ ?_
              · obtain ⟨g1, cap1, w9, hrun, hSt⟩ := hSt.append 1 b1 (by decide) (P := Try.prog) (t := 81) (ty := 81) rfl Try.underlying81 hi hz0 hz1 hz2 rfl hkn
                simp only [upd, v3, Nat.reduceEqDiff, Nat.zero_ne_one, Nat.one_ne_zero, reduceIte] at hrun
                refine ⟨.slice (some ⟨g1, 0, none⟩) (k + 1) cap1, w9, ?_, ?_⟩
                · apply StepG.append (v := u6) (u := .slice (some ⟨b1, 0, none⟩) 1 1)
                  · rfl
                  · kernel_rfl
                  · kernel_rfl
                  · kernel_rfl
                  · exact hrun
                (try simp only [Act.put, List.setIfInBounds_toArray, List.set_cons_zero, List.set_cons_succ])
                clear hrun
                refine AnyG.one 22 (by kernel_rfl) hSt.below rfl rfl ?_
                · refine ⟨.slice (some ⟨w9.heap.size, 0, none⟩) 1 1, w9.alloc (.cells #[.int .i64 x4, .int .i64 x5] 25), ⟨by rfl, by first | (go_simp; done) | (go_simp; with_reducible rfl)⟩, ?_⟩
                  have hSt := hSt.build 2
                  change St _ _ _ _ _ _ _ _ _ (w9.alloc (.cells #[.int .i64 x4, .int .i64 x5] 25)) at hSt
                  generalize w9.heap.size = b2 at hSt ⊢
                  generalize w9.alloc (.cells #[.int .i64 x4, .int .i64 x5] 25) = w9 at hSt ⊢
                  (try simp only [Act.put, List.setIfInBounds_toArray, List.set_cons_zero, List.set_cons_succ])
                  refine AnyG.one 23 (by kernel_rfl) hSt.below rfl rfl ?_
                  · obtain ⟨g2, cap2, w9, hrun, hSt⟩ := hSt.append 2 b2 (by decide) (P := Try.prog) (t := 81) (ty := 81) rfl Try.underlying81 hi hz0 hz1 hz2 rfl hkn
                    simp only [upd, v3, Nat.reduceEqDiff, Nat.zero_ne_one, Nat.one_ne_zero, reduceIte] at hrun
                    refine ⟨.slice (some ⟨g2, 0, none⟩) (k + 1) cap2, w9, ?_, ?_⟩
                    · apply StepG.append (v := u7) (u := .slice (some ⟨b2, 0, none⟩) 1 1)
                      · rfl
                      · kernel_rfl
                      · kernel_rfl
                      · kernel_rfl
                      · exact hrun
                    (try simp only [Act.put, List.setIfInBounds_toArray, List.set_cons_zero, List.set_cons_succ])
                    clear hrun
                    refine AnyG.take 24 (v := ?_) rfl rfl (by kernel_rfl) (by kernel_rfl) (by kernel_rfl) (by rfl) (fun w' hw' => ?_) ?_
                    rotate_left
                    · first | (go_simp; done) | (go_simp; with_reducible rfl)
                    (try simp only [Act.put, List.setIfInBounds_toArray, List.set_cons_zero, List.set_cons_succ])
                    refine AnyG.take 25 (v := ?_) rfl rfl (by kernel_rfl) (by kernel_rfl) (by kernel_rfl) (by rfl) (fun w' hw' => ?_) ?_
                    rotate_left
                    · first | (go_simp; done) | (go_simp; with_reducible rfl)
                    (try simp only [Act.put, List.setIfInBounds_toArray, List.set_cons_zero, List.set_cons_succ])
                    refine AnyG.take 26 (v := ?_) rfl rfl (by kernel_rfl) (by kernel_rfl) (by kernel_rfl) (by rfl) (fun w' hw' => ?_) ?_
                    rotate_left
                    · first | (go_simp; done) | (go_simp; with_reducible rfl)
                    (try simp only [Act.put, List.setIfInBounds_toArray, List.set_cons_zero, List.set_cons_succ])
                    refine AnyG.done (by kernel_rfl) hSt.below ?_
                    rw [HQ.out]
                    have hR := HFIN.out _ _ _ _ hSt.below hSt.size (St.leaf HX.out hSt (fun m hm => (by match m, hm with
                      | 0, _ => rfl
                      | 1, _ => rfl
                      | 2, _ => rfl
                      )) (fun m hm => (by match m, hm with
                      | 0, _ => rfl
                      | 1, _ => rfl
                      | 2, _ => rfl
                      )))
                    clear hSt HFIN
                    go_wp2_with fail
                    go_roundw
                    case rel => exact ⟨k + 1, _, _, _, ⟨by omega, by first | rfl | go_num, rfl, rfl, rfl⟩, hR⟩
                    case measure => simp [intOf]; omega
              · refine ⟨.slice (some ⟨w9.heap.size, 0, none⟩) 1 1, w9.alloc (.cells #[.int .i64 x4, .int .i64 x5] 25), ⟨by rfl, by first | (go_simp; done) | (go_simp; with_reducible rfl)⟩, ?_⟩
                have hSt := hSt.build 2
                change St _ _ _ _ _ _ _ _ _ (w9.alloc (.cells #[.int .i64 x4, .int .i64 x5] 25)) at hSt
                generalize w9.heap.size = b2 at hSt ⊢
                generalize w9.alloc (.cells #[.int .i64 x4, .int .i64 x5] 25) = w9 at hSt ⊢
                (try simp only [Act.put, List.setIfInBounds_toArray, List.set_cons_zero, List.set_cons_succ])
                refine AnyG.one 15 (by kernel_rfl) hSt.below rfl rfl ?_
                · obtain ⟨g1, cap1, w9, hrun, hSt⟩ := hSt.append 1 b1 (by decide) (P := Try.prog) (t := 81) (ty := 81) rfl Try.underlying81 hi hz0 hz1 hz2 rfl hkn
                  simp only [upd, v3, Nat.reduceEqDiff, Nat.zero_ne_one, Nat.one_ne_zero, reduceIte] at hrun
                  refine ⟨.slice (some ⟨g1, 0, none⟩) (k + 1) cap1, w9, ?_, ?_⟩
                  · apply StepG.append (v := u6) (u := .slice (some ⟨b1, 0, none⟩) 1 1)
                    · rfl
                    · kernel_rfl
                    · kernel_rfl
                    · kernel_rfl
                    · exact hrun
                  (try simp only [Act.put, List.setIfInBounds_toArray, List.set_cons_zero, List.set_cons_succ])
                  clear hrun
                  refine AnyG.one 23 (by kernel_rfl) hSt.below rfl rfl ?_
                  · obtain ⟨g2, cap2, w9, hrun, hSt⟩ := hSt.append 2 b2 (by decide) (P := Try.prog) (t := 81) (ty := 81) rfl Try.underlying81 hi hz0 hz1 hz2 rfl hkn
                    simp only [upd, v3, Nat.reduceEqDiff, Nat.zero_ne_one, Nat.one_ne_zero, reduceIte] at hrun
                    refine ⟨.slice (some ⟨g2, 0, none⟩) (k + 1) cap2, w9, ?_, ?_⟩
                    · apply StepG.append (v := u7) (u := .slice (some ⟨b2, 0, none⟩) 1 1)
                      · rfl
                      · kernel_rfl
                      · kernel_rfl
                      · kernel_rfl
                      · exact hrun
                    (try simp only [Act.put, List.setIfInBounds_toArray, List.set_cons_zero, List.set_cons_succ])
                    clear hrun
                    refine AnyG.take 24 (v := ?_) rfl rfl (by kernel_rfl) (by kernel_rfl) (by kernel_rfl) (by rfl) (fun w' hw' => ?_) ?_
                    rotate_left
                    · first | (go_simp; done) | (go_simp; with_reducible rfl)
                    (try simp only [Act.put, List.setIfInBounds_toArray, List.set_cons_zero, List.set_cons_succ])
                    refine AnyG.take 25 (v := ?_) rfl rfl (by kernel_rfl) (by kernel_rfl) (by kernel_rfl) (by rfl) (fun w' hw' => ?_) ?_
                    rotate_left
                    · first | (go_simp; done) | (go_simp; with_reducible rfl)
                    (try simp only [Act.put, List.setIfInBounds_toArray, List.set_cons_zero, List.set_cons_succ])
                    refine AnyG.take 26 (v := ?_) rfl rfl (by kernel_rfl) (by kernel_rfl) (by kernel_rfl) (by rfl) (fun w' hw' => ?_) ?_
                    rotate_left
                    · first | (go_simp; done) | (go_simp; with_reducible rfl)
                    (try simp only [Act.put, List.setIfInBounds_toArray, List.set_cons_zero, List.set_cons_succ])
                    refine AnyG.done (by kernel_rfl) hSt.below ?_
                    rw [HQ.out]
                    have hR := HFIN.out _ _ _ _ hSt.below hSt.size (St.leaf HX.out hSt (fun m hm => (by match m, hm with
                      | 0, _ => rfl
                      | 1, _ => rfl
                      | 2, _ => rfl
                      )) (fun m hm => (by match m, hm with
                      | 0, _ => rfl
                      | 1, _ => rfl
                      | 2, _ => rfl
                      )))
                    clear hSt HFIN
                    go_wp2_with fail
                    go_roundw
                    case rel => exact ⟨k + 1, _, _, _, ⟨by omega, by first | rfl | go_num, rfl, rfl, rfl⟩, hR⟩
                    case measure => simp [intOf]; omega
            · refine ⟨.slice (some ⟨w9.heap.size, 0, none⟩) 1 1, w9.alloc (.cells #[.int .i64 x4, .int .i64 x5] 25), ⟨by rfl, by first | (go_simp; done) | (go_simp; with_reducible rfl)⟩, ?_⟩
              have hSt := hSt.build 2
              change St _ _ _ _ _ _ _ _ _ (w9.alloc (.cells #[.int .i64 x4, .int .i64 x5] 25)) at hSt
              generalize w9.heap.size = b2 at hSt ⊢
              generalize w9.alloc (.cells #[.int .i64 x4, .int .i64 x5] 25) = w9 at hSt ⊢
              (try simp only [Act.put, List.setIfInBounds_toArray, List.set_cons_zero, List.set_cons_succ])
              refine AnyG.one 14 (by kernel_rfl) hSt.below rfl rfl ?_
              · refine ⟨.slice (some ⟨w9.heap.size, 0, none⟩) 1 1, w9.alloc (.cells #[.int .i64 x2, .int .i64 x3] 25), ⟨by rfl, by first | (go_simp; done) | (go_simp; with_reducible rfl)⟩, ?_⟩
                have hSt := hSt.build 1
                change St _ _ _ _ _ _ _ _ _ (w9.alloc (.cells #[.int .i64 x2, .int .i64 x3] 25)) at hSt
                generalize w9.heap.size = b1 at hSt ⊢
                generalize w9.alloc (.cells #[.int .i64 x2, .int .i64 x3] 25) = w9 at hSt ⊢
                (try simp only [Act.put, List.setIfInBounds_toArray, List.set_cons_zero, List.set_cons_succ])
                refine AnyG.one 15 (by kernel_rfl) hSt.below rfl rfl ?_
                · obtain ⟨g1, cap1, w9, hrun, hSt⟩ := hSt.append 1 b1 (by decide) (P := Try.prog) (t := 81) (ty := 81) rfl Try.underlying81 hi hz0 hz1 hz2 rfl hkn
                  simp only [upd, v3, Nat.reduceEqDiff, Nat.zero_ne_one, Nat.one_ne_zero, reduceIte] at hrun
                  refine ⟨.slice (some ⟨g1, 0, none⟩) (k + 1) cap1, w9, ?_, ?_⟩
                  · apply StepG.append (v := u6) (u := .slice (some ⟨b1, 0, none⟩) 1 1)
                    · rfl
                    · kernel_rfl
                    · kernel_rfl
                    · kernel_rfl
                    · exact hrun
                  (try simp only [Act.put, List.setIfInBounds_toArray, List.set_cons_zero, List.set_cons_succ])
                  clear hrun
                  refine AnyG.one 23 (by kernel_rfl) hSt.below rfl rfl ?_
                  · obtain ⟨g2, cap2, w9, hrun, hSt⟩ := hSt.append 2 b2 (by decide) (P := Try.prog) (t := 81) (ty := 81) rfl Try.underlying81 hi hz0 hz1 hz2 rfl hkn
                    simp only [upd, v3, Nat.reduceEqDiff, Nat.zero_ne_one, Nat.one_ne_zero, reduceIte] at hrun
                    refine ⟨.slice (some ⟨g2, 0, none⟩) (k + 1) cap2, w9, ?_, ?_⟩
                    · apply StepG.append (v := u7) (u := .slice (some ⟨b2, 0, none⟩) 1 1)
                      · rfl
                      · kernel_rfl
                      · kernel_rfl
                      · kernel_rfl
                      · exact hrun
                    (try simp only [Act.put, List.setIfInBounds_toArray, List.set_cons_zero, List.set_cons_succ])
                    clear hrun
                    refine AnyG.take 24 (v := ?_) rfl rfl (by kernel_rfl) (by kernel_rfl) (by kernel_rfl) (by rfl) (fun w' hw' => ?_) ?_
                    rotate_left
                    · first | (go_simp; done) | (go_simp; with_reducible rfl)
                    (try simp only [Act.put, List.setIfInBounds_toArray, List.set_cons_zero, List.set_cons_succ])
                    refine AnyG.take 25 (v := ?_) rfl rfl (by kernel_rfl) (by kernel_rfl) (by kernel_rfl) (by rfl) (fun w' hw' => ?_) ?_
                    rotate_left
                    · first | (go_simp; done) | (go_simp; with_reducible rfl)
                    (try simp only [Act.put, List.setIfInBounds_toArray, List.set_cons_zero, List.set_cons_succ])
                    refine AnyG.take 26 (v := ?_) rfl rfl (by kernel_rfl) (by kernel_rfl) (by kernel_rfl) (by rfl) (fun w' hw' => ?_) ?_
                    rotate_left
                    · first | (go_simp; done) | (go_simp; with_reducible rfl)
                    (try simp only [Act.put, List.setIfInBounds_toArray, List.set_cons_zero, List.set_cons_succ])
                    refine AnyG.done (by kernel_rfl) hSt.below ?_
                    rw [HQ.out]
                    have hR := HFIN.out _ _ _ _ hSt.below hSt.size (St.leaf HX.out hSt (fun m hm => (by match m, hm with
                      | 0, _ => rfl
                      | 1, _ => rfl
                      | 2, _ => rfl
                      )) (fun m hm => (by match m, hm with
                      | 0, _ => rfl
                      | 1, _ => rfl
                      | 2, _ => rfl
                      )))
                    clear hSt HFIN
                    go_wp2_with fail
                    go_roundw
                    case rel => exact ⟨k + 1, _, _, _, ⟨by omega, by first | rfl | go_num, rfl, rfl, rfl⟩, hR⟩
                    case measure => simp [intOf]; omega
          · refine ⟨.slice (some ⟨wn.heap.size, 0, none⟩) 1 1, wn.alloc (.cells #[.int .i64 x2, .int .i64 x3] 25), ⟨by rfl, by first | (go_simp; done) | (go_simp; with_reducible rfl)⟩, ?_⟩
            have hSt := hSt.build 1
            change St _ _ _ _ _ _ _ _ _ (wn.alloc (.cells #[.int .i64 x2, .int .i64 x3] 25)) at hSt
            generalize wn.heap.size = b1 at hSt ⊢
            generalize wn.alloc (.cells #[.int .i64 x2, .int .i64 x3] 25) = wn at hSt ⊢
            (try simp only [Act.put, List.setIfInBounds_toArray, List.set_cons_zero, List.set_cons_succ])
            refine AnyG.two 7 22 (by kernel_rfl) hSt.below rfl rfl rfl rfl ?_ ?_
            · obtain ⟨g0, cap0, w9, hrun, hSt⟩ := hSt.append 0 b0 (by decide) (P := Try.prog) (t := 81) (ty := 81) rfl Try.underlying81 hi hz0 hz1 hz2 rfl hkn
              simp only [upd, v3, Nat.reduceEqDiff, Nat.zero_ne_one, Nat.one_ne_zero, reduceIte] at hrun
              refine ⟨.slice (some ⟨g0, 0, none⟩) (k + 1) cap0, w9, ?_, ?_⟩
              · apply StepG.append (v := u5) (u := .slice (some ⟨b0, 0, none⟩) 1 1)
                · rfl
                · kernel_rfl
                · kernel_rfl
                · kernel_rfl
                · exact hrun
              (try simp only [Act.put, List.setIfInBounds_toArray, List.set_cons_zero, List.set_cons_succ])
              clear hrun
              refine AnyG.two 15 22 (by kernel_rfl) hSt.below rfl rfl rfl rfl ?_ ?_
              · obtain ⟨g1, cap1, w9, hrun, hSt⟩ := hSt.append 1 b1 (by decide) (P := Try.prog) (t := 81) (ty := 81) rfl Try.underlying81 hi hz0 hz1 hz2 rfl hkn
                simp only [upd, v3, Nat.reduceEqDiff, Nat.zero_ne_one, Nat.one_ne_zero, reduceIte] at hrun
                refine ⟨.slice (some ⟨g1, 0, none⟩) (k + 1) cap1, w9, ?_, ?_⟩
                · apply StepG.append (v := u6) (u := .slice (some ⟨b1, 0, none⟩) 1 1)
                  · rfl
                  · kernel_rfl
                  · kernel_rfl
                  · kernel_rfl
                  · exact hrun
                (try simp only [Act.put, List.setIfInBounds_toArray, List.set_cons_zero, List.set_cons_succ])
                clear hrun
                refine AnyG.one 22 (by kernel_rfl) hSt.below rfl rfl ?_
                · refine ⟨.slice (some ⟨w9.heap.size, 0, none⟩) 1 1, w9.alloc (.cells #[.int .i64 x4, .int .i64 x5] 25), ⟨by rfl, by first | (go_simp; done) | (go_simp; with_reducible rfl)⟩, ?_⟩
                  have hSt := hSt.build 2
                  change St _ _ _ _ _ _ _ _ _ (w9.alloc (.cells #[.int .i64 x4, .int .i64 x5] 25)) at hSt
                  generalize w9.heap.size = b2 at hSt ⊢
                  generalize w9.alloc (.cells #[.int .i64 x4, .int .i64 x5] 25) = w9 at hSt ⊢
                  (try simp only [Act.put, List.setIfInBounds_toArray, List.set_cons_zero, List.set_cons_succ])
                  refine AnyG.one 23 (by kernel_rfl) hSt.below rfl rfl ?_
                  · obtain ⟨g2, cap2, w9, hrun, hSt⟩ := hSt.append 2 b2 (by decide) (P := Try.prog) (t := 81) (ty := 81) rfl Try.underlying81 hi hz0 hz1 hz2 rfl hkn
                    simp only [upd, v3, Nat.reduceEqDiff, Nat.zero_ne_one, Nat.one_ne_zero, reduceIte] at hrun
                    refine ⟨.slice (some ⟨g2, 0, none⟩) (k + 1) cap2, w9, ?_, ?_⟩
                    · apply StepG.append (v := u7) (u := .slice (some ⟨b2, 0, none⟩) 1 1)
                      · rfl
                      · kernel_rfl
                      · kernel_rfl
                      · kernel_rfl
                      · exact hrun
                    (try simp only [Act.put, List.setIfInBounds_toArray, List.set_cons_zero, List.set_cons_succ])
                    clear hrun
                    refine AnyG.take 24 (v := ?_) rfl rfl (by kernel_rfl) (by kernel_rfl) (by kernel_rfl) (by rfl) (fun w' hw' => ?_) ?_
                    rotate_left
                    · first | (go_simp; done) | (go_simp; with_reducible rfl)
                    (try simp only [Act.put, List.setIfInBounds_toArray, List.set_cons_zero, List.set_cons_succ])
                    refine AnyG.take 25 (v := ?_) rfl rfl (by kernel_rfl) (by kernel_rfl) (by kernel_rfl) (by rfl) (fun w' hw' => ?_) ?_
                    rotate_left
                    · first | (go_simp; done) | (go_simp; with_reducible rfl)
                    (try simp only [Act.put, List.setIfInBounds_toArray, List.set_cons_zero, List.set_cons_succ])
                    refine AnyG.take 26 (v := ?_) rfl rfl (by kernel_rfl) (by kernel_rfl) (by kernel_rfl) (by rfl) (fun w' hw' => ?_) ?_
                    rotate_left
                    · first | (go_simp; done) | (go_simp; with_reducible rfl)
                    (try simp only [Act.put, List.setIfInBounds_toArray, List.set_cons_zero, List.set_cons_succ])
                    refine AnyG.done (by kernel_rfl) hSt.below ?_
                    rw [HQ.out]
                    have hR := HFIN.out _ _ _ _ hSt.below hSt.size (St.leaf HX.out hSt (fun m hm => (by match m, hm with
                      | 0, _ => rfl
                      | 1, _ => rfl
                      | 2, _ => rfl
                      )) (fun m hm => (by match m, hm with
                      | 0, _ => rfl
                      | 1, _ => rfl
                      | 2, _ => rfl
                      )))
                    clear hSt HFIN
                    go_wp2_with fail
                    go_roundw
                    case rel => exact ⟨k + 1, _, _, _, ⟨by omega, by first | rfl | go_num, rfl, rfl, rfl⟩, hR⟩
                    case measure => simp [intOf]; omega
              · refine ⟨.slice (some ⟨w9.heap.size, 0, none⟩) 1 1, w9.alloc (.cells #[.int .i64 x4, .int .i64 x5] 25), ⟨by rfl, by first | (go_simp; done) | (go_simp; with_reducible rfl)⟩, ?_⟩
                have hSt := hSt.build 2
                change St _ _ _ _ _ _ _ _ _ (w9.alloc (.cells #[.int .i64 x4, .int .i64 x5] 25)) at hSt
                generalize w9.heap.size = b2 at hSt ⊢
                generalize w9.alloc (.cells #[.int .i64 x4, .int .i64 x5] 25) = w9 at hSt ⊢
                (try simp only [Act.put, List.setIfInBounds_toArray, List.set_cons_zero, List.set_cons_succ])
                refine AnyG.one 15 (by kernel_rfl) hSt.below rfl rfl ?_
                · obtain ⟨g1, cap1, w9, hrun, hSt⟩ := hSt.append 1 b1 (by decide) (P := Try.prog) (t := 81) (ty := 81) rfl Try.underlying81 hi hz0 hz1 hz2 rfl hkn
                  simp only [upd, v3, Nat.reduceEqDiff, Nat.zero_ne_one, Nat.one_ne_zero, reduceIte] at hrun
                  refine ⟨.slice (some ⟨g1, 0, none⟩) (k + 1) cap1, w9, ?_, ?_⟩
                  · apply StepG.append (v := u6) (u := .slice (some ⟨b1, 0, none⟩) 1 1)
                    · rfl
                    · kernel_rfl
                    · kernel_rfl
                    · kernel_rfl
                    · exact hrun
                  (try simp only [Act.put, List.setIfInBounds_toArray, List.set_cons_zero, List.set_cons_succ])
                  clear hrun
                  refine AnyG.one 23 (by kernel_rfl) hSt.below rfl rfl ?_
                  · obtain ⟨g2, cap2, w9, hrun, hSt⟩ := hSt.append 2 b2 (by decide) (P := Try.prog) (t := 81) (ty := 81) rfl Try.underlying81 hi hz0 hz1 hz2 rfl hkn
                    simp only [upd, v3, Nat.reduceEqDiff, Nat.zero_ne_one, Nat.one_ne_zero, reduceIte] at hrun
                    refine ⟨.slice (some ⟨g2, 0, none⟩) (k + 1) cap2, w9, ?_, ?_⟩
                    · apply StepG.append (v := u7) (u := .slice (some ⟨b2, 0, none⟩) 1 1)
                      · rfl
                      · kernel_rfl
                      · kernel_rfl
                      · kernel_rfl
                      · exact hrun
                    (try simp only [Act.put, List.setIfInBounds_toArray, List.set_cons_zero, List.set_cons_succ])
                    clear hrun
                    refine AnyG.take 24 (v := ?_) rfl rfl (by kernel_rfl) (by kernel_rfl) (by kernel_rfl) (by rfl) (fun w' hw' => ?_) ?_
                    rotate_left
                    · first | (go_simp; done) | (go_simp; with_reducible rfl)
                    (try simp only [Act.put, List.setIfInBounds_toArray, List.set_cons_zero, List.set_cons_succ])
                    refine AnyG.take 25 (v := ?_) rfl rfl (by kernel_rfl) (by kernel_rfl) (by kernel_rfl) (by rfl) (fun w' hw' => ?_) ?_
                    rotate_left
                    · first | (go_simp; done) | (go_simp; with_reducible rfl)
                    (try simp only [Act.put, List.setIfInBounds_toArray, List.set_cons_zero, List.set_cons_succ])
                    refine AnyG.take 26 (v := ?_) rfl rfl (by kernel_rfl) (by kernel_rfl) (by kernel_rfl) (by rfl) (fun w' hw' => ?_) ?_
                    rotate_left
                    · first | (go_simp; done) | (go_simp; with_reducible rfl)
                    (try simp only [Act.put, List.setIfInBounds_toArray, List.set_cons_zero, List.set_cons_succ])
                    refine AnyG.done (by kernel_rfl) hSt.below ?_
                    rw [HQ.out]
                    have hR := HFIN.out _ _ _ _ hSt.below hSt.size (St.leaf HX.out hSt (fun m hm => (by match m, hm with
                      | 0, _ => rfl
                      | 1, _ => rfl
                      | 2, _ => rfl
                      )) (fun m hm => (by match m, hm with
                      | 0, _ => rfl
                      | 1, _ => rfl
                      | 2, _ => rfl
                      )))
                    clear hSt HFIN
                    go_wp2_with fail
                    go_roundw
                    case rel => exact ⟨k + 1, _, _, _, ⟨by omega, by first | rfl | go_num, rfl, rfl, rfl⟩, hR⟩
                    case measure => simp [intOf]; omega
            · refine ⟨.slice (some ⟨wn.heap.size, 0, none⟩) 1 1, wn.alloc (.cells #[.int .i64 x4, .int .i64 x5] 25), ⟨by rfl, by first | (go_simp; done) | (go_simp; with_reducible rfl)⟩, ?_⟩
              have hSt := hSt.build 2
              change St _ _ _ _ _ _ _ _ _ (wn.alloc (.cells #[.int .i64 x4, .int .i64 x5] 25)) at hSt
              generalize wn.heap.size = b2 at hSt ⊢
              generalize wn.alloc (.cells #[.int .i64 x4, .int .i64 x5] 25) = wn at hSt ⊢
              (try simp only [Act.put, List.setIfInBounds_toArray, List.set_cons_zero, List.set_cons_succ])
              refine AnyG.one 7 (by kernel_rfl) hSt.below rfl rfl ?_
              · obtain ⟨g0, cap0, w9, hrun, hSt⟩ := hSt.append 0 b0 (by decide) (P := Try.prog) (t := 81) (ty := 81) rfl Try.underlying81 hi hz0 hz1 hz2 rfl hkn
                simp only [upd, v3, Nat.reduceEqDiff, Nat.zero_ne_one, Nat.one_ne_zero, reduceIte] at hrun
                refine ⟨.slice (some ⟨g0, 0, none⟩) (k + 1) cap0, w9, ?_, ?_⟩
                · apply StepG.append (v := u5) (u := .slice (some ⟨b0, 0, none⟩) 1 1)
                  · rfl
                  · kernel_rfl
                  · kernel_rfl
                  · kernel_rfl
                  · exact hrun
                (try simp only [Act.put, List.setIfInBounds_toArray, List.set_cons_zero, List.set_cons_succ])
                clear hrun
                refine AnyG.one 15 (by kernel_rfl) hSt.below rfl rfl ?_
                · obtain ⟨g1, cap1, w9, hrun, hSt⟩ := hSt.append 1 b1 (by decide) (P := Try.prog) (t := 81) (ty := 81) rfl Try.underlying81 hi hz0 hz1 hz2 rfl hkn
                  simp only [upd, v3, Nat.reduceEqDiff, Nat.zero_ne_one, Nat.one_ne_zero, reduceIte] at hrun
                  refine ⟨.slice (some ⟨g1, 0, none⟩) (k + 1) cap1, w9, ?_, ?_⟩
                  · apply StepG.append (v := u6) (u := .slice (some ⟨b1, 0, none⟩) 1 1)
                    · rfl
                    · kernel_rfl
                    · kernel_rfl
                    · kernel_rfl
                    · exact hrun
                  (try simp only [Act.put, List.setIfInBounds_toArray, List.set_cons_zero, List.set_cons_succ])
                  clear hrun
                  refine AnyG.one 23 (by kernel_rfl) hSt.below rfl rfl ?_
                  · obtain ⟨g2, cap2, w9, hrun, hSt⟩ := hSt.append 2 b2 (by decide) (P := Try.prog) (t := 81) (ty := 81) rfl Try.underlying81 hi hz0 hz1 hz2 rfl hkn
                    simp only [upd, v3, Nat.reduceEqDiff, Nat.zero_ne_one, Nat.one_ne_zero, reduceIte] at hrun
                    refine ⟨.slice (some ⟨g2, 0, none⟩) (k + 1) cap2, w9, ?_, ?_⟩
                    · apply StepG.append (v := u7) (u := .slice (some ⟨b2, 0, none⟩) 1 1)
                      · rfl
                      · kernel_rfl
                      · kernel_rfl
                      · kernel_rfl
                      · exact hrun
                    (try simp only [Act.put, List.setIfInBounds_toArray, List.set_cons_zero, List.set_cons_succ])
                    clear hrun
                    refine AnyG.take 24 (v := ?_) rfl rfl (by kernel_rfl) (by kernel_rfl) (by kernel_rfl) (by rfl) (fun w' hw' => ?_) ?_
                    rotate_left
                    · first | (go_simp; done) | (go_simp; with_reducible rfl)
                    (try simp only [Act.put, List.setIfInBounds_toArray, List.set_cons_zero, List.set_cons_succ])
                    refine AnyG.take 25 (v := ?_) rfl rfl (by kernel_rfl) (by kernel_rfl) (by kernel_rfl) (by rfl) (fun w' hw' => ?_) ?_
                    rotate_left
                    · first | (go_simp; done) | (go_simp; with_reducible rfl)
                    (try simp only [Act.put, List.setIfInBounds_toArray, List.set_cons_zero, List.set_cons_succ])
                    refine AnyG.take 26 (v := ?_) rfl rfl (by kernel_rfl) (by kernel_rfl) (by kernel_rfl) (by rfl) (fun w' hw' => ?_) ?_
                    rotate_left
                    · first | (go_simp; done) | (go_simp; with_reducible rfl)
                    (try simp only [Act.put, List.setIfInBounds_toArray, List.set_cons_zero, List.set_cons_succ])
                    refine AnyG.done (by kernel_rfl) hSt.below ?_
                    rw [HQ.out]
                    have hR := HFIN.out _ _ _ _ hSt.below hSt.size (St.leaf HX.out hSt (fun m hm => (by match m, hm with
                      | 0, _ => rfl
                      | 1, _ => rfl
                      | 2, _ => rfl
                      )) (fun m hm => (by match m, hm with
                      | 0, _ => rfl
                      | 1, _ => rfl
                      | 2, _ => rfl
                      )))
                    clear hSt HFIN
                    go_wp2_with fail
                    go_roundw
                    case rel => exact ⟨k + 1, _, _, _, ⟨by omega, by first | rfl | go_num, rfl, rfl, rfl⟩, hR⟩
                    case measure => simp [intOf]; omega
          · refine ⟨.slice (some ⟨wn.heap.size, 0, none⟩) 1 1, wn.alloc (.cells #[.int .i64 x4, .int .i64 x5] 25), ⟨by rfl, by first | (go_simp; done) | (go_simp; with_reducible rfl)⟩, ?_⟩
            have hSt := hSt.build 2
            change St _ _ _ _ _ _ _ _ _ (wn.alloc (.cells #[.int .i64 x4, .int .i64 x5] 25)) at hSt
            generalize wn.heap.size = b2 at hSt ⊢
            generalize wn.alloc (.cells #[.int .i64 x4, .int .i64 x5] 25) = wn at hSt ⊢
            (try simp only [Act.put, List.setIfInBounds_toArray, List.set_cons_zero, List.set_cons_succ])
            refine AnyG.two 7 14 (by kernel_rfl) hSt.below rfl rfl rfl rfl ?_ ?_
            · obtain ⟨g0, cap0, w9, hrun, hSt⟩ := hSt.append 0 b0 (by decide) (P := Try.prog) (t := 81) (ty := 81) rfl Try.underlying81 hi hz0 hz1 hz2 rfl hkn
              simp only [upd, v3, Nat.reduceEqDiff, Nat.zero_ne_one, Nat.one_ne_zero, reduceIte] at hrun
              refine ⟨.slice (some ⟨g0, 0, none⟩) (k + 1) cap0, w9, ?_, ?_⟩
              · apply StepG.append (v := u5) (u := .slice (some ⟨b0, 0, none⟩) 1 1)
                · rfl
                · kernel_rfl
                · kernel_rfl
                · kernel_rfl
                · exact hrun
              (try simp only [Act.put, List.setIfInBounds_toArray, List.set_cons_zero, List.set_cons_succ])
              clear hrun
              refine AnyG.one 14 (by kernel_rfl) hSt.below rfl rfl ?_
              · refine ⟨.slice (some ⟨w9.heap.size, 0, none⟩) 1 1, w9.alloc (.cells #[.int .i64 x2, .int .i64 x3] 25), ⟨by rfl, by first | (go_simp; done) | (go_simp; with_reducible rfl)⟩, ?_⟩
                have hSt := hSt.build 1
                change St _ _ _ _ _ _ _ _ _ (w9.alloc (.cells #[.int .i64 x2, .int .i64 x3] 25)) at hSt
                generalize w9.heap.size = b1 at hSt ⊢
                generalize w9.alloc (.cells #[.int .i64 x2, .int .i64 x3] 25) = w9 at hSt ⊢
                (try simp only [Act.put, List.setIfInBounds_toArray, List.set_cons_zero, List.set_cons_succ])
                refine AnyG.one 15 (by kernel_rfl) hSt.below rfl rfl ?_
                · obtain ⟨g1, cap1, w9, hrun, hSt⟩ := hSt.append 1 b1 (by decide) (P := Try.prog) (t := 81) (ty := 81) rfl Try.underlying81 hi hz0 hz1 hz2 rfl hkn
                  simp only [upd, v3, Nat.reduceEqDiff, Nat.zero_ne_one, Nat.one_ne_zero, reduceIte] at hrun
                  refine ⟨.slice (some ⟨g1, 0, none⟩) (k + 1) cap1, w9, ?_, ?_⟩
                  · apply StepG.append (v := u6) (u := .slice (some ⟨b1, 0, none⟩) 1 1)
                    · rfl
                    · kernel_rfl
                    · kernel_rfl
                    · kernel_rfl
                    · exact hrun
                  (try simp only [Act.put, List.setIfInBounds_toArray, List.set_cons_zero, List.set_cons_succ])
                  clear hrun
                  refine AnyG.one 23 (by kernel_rfl) hSt.below rfl rfl ?_
                  · obtain ⟨g2, cap2, w9, hrun, hSt⟩ := hSt.append 2 b2 (by decide) (P := Try.prog) (t := 81) (ty := 81) rfl Try.underlying81 hi hz0 hz1 hz2 rfl hkn
                    simp only [upd, v3, Nat.reduceEqDiff, Nat.zero_ne_one, Nat.one_ne_zero, reduceIte] at hrun
                    refine ⟨.slice (some ⟨g2, 0, none⟩) (k + 1) cap2, w9, ?_, ?_⟩
                    · apply StepG.append (v := u7) (u := .slice (some ⟨b2, 0, none⟩) 1 1)
                      · rfl
                      · kernel_rfl
                      · kernel_rfl
                      · kernel_rfl
                      · exact hrun
                    (try simp only [Act.put, List.setIfInBounds_toArray, List.set_cons_zero, List.set_cons_succ])
                    clear hrun
                    refine AnyG.take 24 (v := ?_) rfl rfl (by kernel_rfl) (by kernel_rfl) (by kernel_rfl) (by rfl) (fun w' hw' => ?_) ?_
                    rotate_left
                    · first | (go_simp; done) | (go_simp; with_reducible rfl)
                    (try simp only [Act.put, List.setIfInBounds_toArray, List.set_cons_zero, List.set_cons_succ])
                    refine AnyG.take 25 (v := ?_) rfl rfl (by kernel_rfl) (by kernel_rfl) (by kernel_rfl) (by rfl) (fun w' hw' => ?_) ?_
                    rotate_left
                    · first | (go_simp; done) | (go_simp; with_reducible rfl)
                    (try simp only [Act.put, List.setIfInBounds_toArray, List.set_cons_zero, List.set_cons_succ])
                    refine AnyG.take 26 (v := ?_) rfl rfl (by kernel_rfl) (by kernel_rfl) (by kernel_rfl) (by rfl) (fun w' hw' => ?_) ?_
                    rotate_left
                    · first | (go_simp; done) | (go_simp; with_reducible rfl)
                    (try simp only [Act.put, List.setIfInBounds_toArray, List.set_cons_zero, List.set_cons_succ])
                    refine AnyG.done (by kernel_rfl) hSt.below ?_
                    rw [HQ.out]
                    have hR := HFIN.out _ _ _ _ hSt.below hSt.size (St.leaf HX.out hSt (fun m hm => (by match m, hm with
                      | 0, _ => rfl
                      | 1, _ => rfl
                      | 2, _ => rfl
                      )) (fun m hm => (by match m, hm with
                      | 0, _ => rfl
                      | 1, _ => rfl
                      | 2, _ => rfl
                      )))
                    clear hSt HFIN
                    go_wp2_with fail
                    go_roundw
                    case rel => exact ⟨k + 1, _, _, _, ⟨by omega, by first | rfl | go_num, rfl, rfl, rfl⟩, hR⟩
                    case measure => simp [intOf]; omega
            · refine ⟨.slice (some ⟨wn.heap.size, 0, none⟩) 1 1, wn.alloc (.cells #[.int .i64 x2, .int .i64 x3] 25), ⟨by rfl, by first | (go_simp; done) | (go_simp; with_reducible rfl)⟩, ?_⟩
              have hSt := hSt.build 1
              change St _ _ _ _ _ _ _ _ _ (wn.alloc (.cells #[.int .i64 x2, .int .i64 x3] 25)) at hSt
              generalize wn.heap.size = b1 at hSt ⊢
              generalize wn.alloc (.cells #[.int .i64 x2, .int .i64 x3] 25) = wn at hSt ⊢
              (try simp only [Act.put, List.setIfInBounds_toArray, List.set_cons_zero, List.set_cons_succ])
              refine AnyG.one 7 (by kernel_rfl) hSt.below rfl rfl ?_
              · obtain ⟨g0, cap0, w9, hrun, hSt⟩ := hSt.append 0 b0 (by decide) (P := Try.prog) (t := 81) (ty := 81) rfl Try.underlying81 hi hz0 hz1 hz2 rfl hkn
                simp only [upd, v3, Nat.reduceEqDiff, Nat.zero_ne_one, Nat.one_ne_zero, reduceIte] at hrun
                refine ⟨.slice (some ⟨g0, 0, none⟩) (k + 1) cap0, w9, ?_, ?_⟩
                · apply StepG.append (v := u5) (u := .slice (some ⟨b0, 0, none⟩) 1 1)
                  · rfl
                  · kernel_rfl
                  · kernel_rfl
                  · kernel_rfl
                  · exact hrun
                (try simp only [Act.put, List.setIfInBounds_toArray, List.set_cons_zero, List.set_cons_succ])
                clear hrun
                refine AnyG.one 15 (by kernel_rfl) hSt.below rfl rfl ?_
                · obtain ⟨g1, cap1, w9, hrun, hSt⟩ := hSt.append 1 b1 (by decide) (P := Try.prog) (t := 81) (ty := 81) rfl Try.underlying81 hi hz0 hz1 hz2 rfl hkn
                  simp only [upd, v3, Nat.reduceEqDiff, Nat.zero_ne_one, Nat.one_ne_zero, reduceIte] at hrun
                  refine ⟨.slice (some ⟨g1, 0, none⟩) (k + 1) cap1, w9, ?_, ?_⟩
                  · apply StepG.append (v := u6) (u := .slice (some ⟨b1, 0, none⟩) 1 1)
                    · rfl
                    · kernel_rfl
                    · kernel_rfl
                    · kernel_rfl
                    · exact hrun
                  (try simp only [Act.put, List.setIfInBounds_toArray, List.set_cons_zero, List.set_cons_succ])
                  clear hrun
                  refine AnyG.one 23 (by kernel_rfl) hSt.below rfl rfl ?_
                  · obtain ⟨g2, cap2, w9, hrun, hSt⟩ := hSt.append 2 b2 (by decide) (P := Try.prog) (t := 81) (ty := 81) rfl Try.underlying81 hi hz0 hz1 hz2 rfl hkn
                    simp only [upd, v3, Nat.reduceEqDiff, Nat.zero_ne_one, Nat.one_ne_zero, reduceIte] at hrun
                    refine ⟨.slice (some ⟨g2, 0, none⟩) (k + 1) cap2, w9, ?_, ?_⟩
                    · apply StepG.append (v := u7) (u := .slice (some ⟨b2, 0, none⟩) 1 1)
                      · rfl
                      · kernel_rfl
                      · kernel_rfl
                      · kernel_rfl
                      · exact hrun
                    (try simp only [Act.put, List.setIfInBounds_toArray, List.set_cons_zero, List.set_cons_succ])
                    clear hrun
                    refine AnyG.take 24 (v := ?_) rfl rfl (by kernel_rfl) (by kernel_rfl) (by kernel_rfl) (by rfl) (fun w' hw' => ?_) ?_
                    rotate_left
                    · first | (go_simp; done) | (go_simp; with_reducible rfl)
                    (try simp only [Act.put, List.setIfInBounds_toArray, List.set_cons_zero, List.set_cons_succ])
                    refine AnyG.take 25 (v := ?_) rfl rfl (by kernel_rfl) (by kernel_rfl) (by kernel_rfl) (by rfl) (fun w' hw' => ?_) ?_
                    rotate_left
                    · first | (go_simp; done) | (go_simp; with_reducible rfl)
                    (try simp only [Act.put, List.setIfInBounds_toArray, List.set_cons_zero, List.set_cons_succ])
                    refine AnyG.take 26 (v := ?_) rfl rfl (by kernel_rfl) (by kernel_rfl) (by kernel_rfl) (by rfl) (fun w' hw' => ?_) ?_
                    rotate_left
                    · first | (go_simp; done) | (go_simp; with_reducible rfl)
                    (try simp only [Act.put, List.setIfInBounds_toArray, List.set_cons_zero, List.set_cons_succ])
                    refine AnyG.done (by kernel_rfl) hSt.below ?_
                    rw [HQ.out]
                    have hR := HFIN.out _ _ _ _ hSt.below hSt.size (St.leaf HX.out hSt (fun m hm => (by match m, hm with
                      | 0, _ => rfl
                      | 1, _ => rfl
                      | 2, _ => rfl
                      )) (fun m hm => (by match m, hm with
                      | 0, _ => rfl
                      | 1, _ => rfl
                      | 2, _ => rfl
                      )))
                    clear hSt HFIN
                    go_wp2_with fail
                    go_roundw
                    case rel => exact ⟨k + 1, _, _, _, ⟨by omega, by first | rfl | go_num, rfl, rfl, rfl⟩, hR⟩
                    case measure => simp [intOf]; omega
        · refine ⟨.slice (some ⟨wn.heap.size, 0, none⟩) 1 1, wn.alloc (.cells #[.int .i64 x2, .int .i64 x3] 25), ⟨by rfl, by first | (go_simp; done) | (go_simp; with_reducible rfl)⟩, ?_⟩
          have hSt := hSt.build 1
          change St _ _ _ _ _ _ _ _ _ (wn.alloc (.cells #[.int .i64 x2, .int .i64 x3] 25)) at hSt
          generalize wn.heap.size = b1 at hSt ⊢
          generalize wn.alloc (.cells #[.int .i64 x2, .int .i64 x3] 25) = wn at hSt ⊢
          (try simp only [Act.put, List.setIfInBounds_toArray, List.set_cons_zero, List.set_cons_succ])
          refine AnyG.two 6 22 (by kernel_rfl) hSt.below rfl rfl rfl rfl ?_ ?_
          · refine ⟨.slice (some ⟨wn.heap.size, 0, none⟩) 1 1, wn.alloc (.cells #[.int .i64 x0, .int .i64 x1] 25), ⟨by rfl, by first | (go_simp; done) | (go_simp; with_reducible rfl)⟩, ?_⟩
            have hSt := hSt.build 0
            change St _ _ _ _ _ _ _ _ _ (wn.alloc (.cells #[.int .i64 x0, .int .i64 x1] 25)) at hSt
            generalize wn.heap.size = b0 at hSt ⊢
            generalize wn.alloc (.cells #[.int .i64 x0, .int .i64 x1] 25) = wn at hSt ⊢
            (try simp only [Act.put, List.setIfInBounds_toArray, List.set_cons_zero, List.set_cons_succ])
            refine AnyG.two 7 22 (by kernel_rfl) hSt.below rfl rfl rfl rfl ?_ ?_
            · obtain ⟨g0, cap0, w9, hrun, hSt⟩ := hSt.append 0 b0 (by decide) (P := Try.prog) (t := 81) (ty := 81) rfl Try.underlying81 hi hz0 hz1 hz2 rfl hkn
              simp only [upd, v3, Nat.reduceEqDiff, Nat.zero_ne_one, Nat.one_ne_zero, reduceIte] at hrun
              refine ⟨.slice (some ⟨g0, 0, none⟩) (k + 1) cap0, w9, ?_, ?_⟩
              · apply StepG.append (v := u5) (u := .slice (some ⟨b0, 0, none⟩) 1 1)
                · rfl
                · kernel_rfl
                · kernel_rfl
                · kernel_rfl
                · exact hrun
              (try simp only [Act.put, List.setIfInBounds_toArray, List.set_cons_zero, List.set_cons_succ])
              clear hrun
              refine AnyG.two 15 22 (by kernel_rfl) hSt.below rfl rfl rfl rfl ?_ ?_
              · obtain ⟨g1, cap1, w9, hrun, hSt⟩ := hSt.append 1 b1 (by decide) (P := Try.prog) (t := 81) (ty := 81) rfl Try.underlying81 hi hz0 hz1 hz2 rfl hkn
                simp only [upd, v3, Nat.reduceEqDiff, Nat.zero_ne_one, Nat.one_ne_zero, reduceIte] at hrun
                refine ⟨.slice (some ⟨g1, 0, none⟩) (k + 1) cap1, w9, ?_, ?_⟩
                · apply StepG.append (v := u6) (u := .slice (some ⟨b1, 0, none⟩) 1 1)
                  · rfl
                  · kernel_rfl
                  · kernel_rfl
                  · kernel_rfl
                  · exact hrun
                (try simp only [Act.put, List.setIfInBounds_toArray, List.set_cons_zero, List.set_cons_succ])
                clear hrun
                refine AnyG.one 22 (by kernel_rfl) hSt.below rfl rfl ?_
                · refine ⟨.slice (some ⟨w9.heap.size, 0, none⟩) 1 1, w9.alloc (.cells #[.int .i64 x4, .int .i64 x5] 25), ⟨by rfl, by first | (go_simp; done) | (go_simp; with_reducible rfl)⟩, ?_⟩
                  have hSt := hSt.build 2
                  change St _ _ _ _ _ _ _ _ _ (w9.alloc (.cells #[.int .i64 x4, .int .i64 x5] 25)) at hSt
                  generalize w9.heap.size = b2 at hSt ⊢
                  generalize w9.alloc (.cells #[.int .i64 x4, .int .i64 x5] 25) = w9 at hSt ⊢
                  (try simp only [Act.put, List.setIfInBounds_toArray, List.set_cons_zero, List.set_cons_succ])
                  refine AnyG.one 23 (by kernel_rfl) hSt.below rfl rfl ?_
                  · obtain ⟨g2, cap2, w9, hrun, hSt⟩ := hSt.append 2 b2 (by decide) (P := Try.prog) (t := 81) (ty := 81) rfl Try.underlying81 hi hz0 hz1 hz2 rfl hkn
                    simp only [upd, v3, Nat.reduceEqDiff, Nat.zero_ne_one, Nat.one_ne_zero, reduceIte] at hrun
                    refine ⟨.slice (some ⟨g2, 0, none⟩) (k + 1) cap2, w9, ?_, ?_⟩
                    · apply StepG.append (v := u7) (u := .slice (some ⟨b2, 0, none⟩) 1 1)
                      · rfl
                      · kernel_rfl
                      · kernel_rfl
                      · kernel_rfl
                      · exact hrun
                    (try simp only [Act.put, List.setIfInBounds_toArray, List.set_cons_zero, List.set_cons_succ])
                    clear hrun
                    refine AnyG.take 24 (v := ?_) rfl rfl (by kernel_rfl) (by kernel_rfl) (by kernel_rfl) (by rfl) (fun w' hw' => ?_) ?_
                    rotate_left
                    · first | (go_simp; done) | (go_simp; with_reducible rfl)
                    (try simp only [Act.put, List.setIfInBounds_toArray, List.set_cons_zero, List.set_cons_succ])
                    refine AnyG.take 25 (v := ?_) rfl rfl (by kernel_rfl) (by kernel_rfl) (by kernel_rfl) (by rfl) (fun w' hw' => ?_) ?_
                    rotate_left
                    · first | (go_simp; done) | (go_simp; with_reducible rfl)
                    (try simp only [Act.put, List.setIfInBounds_toArray, List.set_cons_zero, List.set_cons_succ])
                    refine AnyG.take 26 (v := ?_) rfl rfl (by kernel_rfl) (by kernel_rfl) (by kernel_rfl) (by rfl) (fun w' hw' => ?_) ?_
                    rotate_left
                    · first | (go_simp; done) | (go_simp; with_reducible rfl)
                    (try simp only [Act.put, List.setIfInBounds_toArray, List.set_cons_zero, List.set_cons_succ])
                    refine AnyG.done (by kernel_rfl) hSt.below ?_
                    rw [HQ.out]
                    have hR := HFIN.out _ _ _ _ hSt.below hSt.size (St.leaf HX.out hSt (fun m hm => (by match m, hm with
                      | 0, _ => rfl
                      | 1, _ => rfl
                      | 2, _ => rfl
                      )) (fun m hm => (by match m, hm with
                      | 0, _ => rfl
                      | 1, _ => rfl
                      | 2, _ => rfl
                      )))
                    clear hSt HFIN
                    go_wp2_with fail
                    go_roundw
                    case rel => exact ⟨k + 1, _, _, _, ⟨by omega, by first | rfl | go_num, rfl, rfl, rfl⟩, hR⟩
                    case measure => simp [intOf]; omega
              · refine ⟨.slice (some ⟨w9.heap.size, 0, none⟩) 1 1, w9.alloc (.cells #[.int .i64 x4, .int .i64 x5] 25), ⟨by rfl, by first | (go_simp; done) | (go_simp; with_reducible rfl)⟩, ?_⟩
                have hSt := hSt.build 2
                change St _ _ _ _ _ _ _ _ _ (w9.alloc (.cells #[.int .i64 x4, .int .i64 x5] 25)) at hSt
                generalize w9.heap.size = b2 at hSt ⊢
                generalize w9.alloc (.cells #[.int .i64 x4, .int .i64 x5] 25) = w9 at hSt ⊢
                (try simp only [Act.put, List.setIfInBounds_toArray, List.set_cons_zero, List.set_cons_succ])
                refine AnyG.one 15 (by kernel_rfl) hSt.below rfl rfl ?_
                · obtain ⟨g1, cap1, w9, hrun, hSt⟩ := hSt.append 1 b1 (by decide) (P := Try.prog) (t := 81) (ty := 81) rfl Try.underlying81 hi hz0 hz1 hz2 rfl hkn
                  simp only [upd, v3, Nat.reduceEqDiff, Nat.zero_ne_one, Nat.one_ne_zero, reduceIte] at hrun
                  refine ⟨.slice (some ⟨g1, 0, none⟩) (k + 1) cap1, w9, ?_, ?_⟩
                  · apply StepG.append (v := u6) (u := .slice (some ⟨b1, 0, none⟩) 1 1)
                    · rfl
                    · kernel_rfl
                    · kernel_rfl
                    · kernel_rfl
                    · exact hrun
                  (try simp only [Act.put, List.setIfInBounds_toArray, List.set_cons_zero, List.set_cons_succ])
                  clear hrun
                  refine AnyG.one 23 (by kernel_rfl) hSt.below rfl rfl ?_
                  · obtain ⟨g2, cap2, w9, hrun, hSt⟩ := hSt.append 2 b2 (by decide) (P := Try.prog) (t := 81) (ty := 81) rfl Try.underlying81 hi hz0 hz1 hz2 rfl hkn
                    simp only [upd, v3, Nat.reduceEqDiff, Nat.zero_ne_one, Nat.one_ne_zero, reduceIte] at hrun
                    refine ⟨.slice (some ⟨g2, 0, none⟩) (k + 1) cap2, w9, ?_, ?_⟩
                    · apply StepG.append (v := u7) (u := .slice (some ⟨b2, 0, none⟩) 1 1)
                      · rfl
                      · kernel_rfl
                      · kernel_rfl
                      · kernel_rfl
                      · exact hrun
                    (try simp only [Act.put, List.setIfInBounds_toArray, List.set_cons_zero, List.set_cons_succ])
                    clear hrun
                    refine AnyG.take 24 (v := ?_) rfl rfl (by kernel_rfl) (by kernel_rfl) (by kernel_rfl) (by rfl) (fun w' hw' => ?_) ?_
                    rotate_left
                    · first | (go_simp; done) | (go_simp; with_reducible rfl)
                    (try simp only [Act.put, List.setIfInBounds_toArray, List.set_cons_zero, List.set_cons_succ])
                    refine AnyG.take 25 (v := ?_) rfl rfl (by kernel_rfl) (by kernel_rfl) (by kernel_rfl) (by rfl) (fun w' hw' => ?_) ?_
                    rotate_left
                    · first | (go_simp; done) | (go_simp; with_reducible rfl)
                    (try simp only [Act.put, List.setIfInBounds_toArray, List.set_cons_zero, List.set_cons_succ])
                    refine AnyG.take 26 (v := ?_) rfl rfl (by kernel_rfl) (by kernel_rfl) (by kernel_rfl) (by rfl) (fun w' hw' => ?_) ?_
                    rotate_left
                    · first | (go_simp; done) | (go_simp; with_reducible rfl)
                    (try simp only [Act.put, List.setIfInBounds_toArray, List.set_cons_zero, List.set_cons_succ])
                    refine AnyG.done (by kernel_rfl) hSt.below ?_
                    rw [HQ.out]
                    have hR := HFIN.out _ _ _ _ hSt.below hSt.size (St.leaf HX.out hSt (fun m hm => (by match m, hm with
                      | 0, _ => rfl
                      | 1, _ => rfl
                      | 2, _ => rfl
                      )) (fun m hm => (by match m, hm with
                      | 0, _ => rfl
                      | 1, _ => rfl
                      | 2, _ => rfl
                      )))
                    clear hSt HFIN
                    go_wp2_with fail
                    go_roundw
                    case rel => exact ⟨k + 1, _, _, _, ⟨by omega, by first | rfl | go_num, rfl, rfl, rfl⟩, hR⟩
                    case measure => simp [intOf]; omega
            · refine ⟨.slice (some ⟨wn.heap.size, 0, none⟩) 1 1, wn.alloc (.cells #[.int .i64 x4, .int .i64 x5] 25), ⟨by rfl, by first | (go_simp; done) | (go_simp; with_reducible rfl)⟩, ?_⟩
              have hSt := hSt.build 2
              change St _ _ _ _ _ _ _ _ _ (wn.alloc (.cells #[.int .i64 x4, .int .i64 x5] 25)) at hSt
              generalize wn.heap.size = b2 at hSt ⊢
              generalize wn.alloc (.cells #[.int .i64 x4, .int .i64 x5] 25) = wn at hSt ⊢
              (try simp only [Act.put, List.setIfInBounds_toArray, List.set_cons_zero, List.set_cons_succ])
              refine AnyG.one 7 (by kernel_rfl) hSt.below rfl rfl ?_
              · obtain ⟨g0, cap0, w9, hrun, hSt⟩ := hSt.append 0 b0 (by decide) (P := Try.prog) (t := 81) (ty := 81) rfl Try.underlying81 hi hz0 hz1 hz2 rfl hkn
                simp only [upd, v3, Nat.reduceEqDiff, Nat.zero_ne_one, Nat.one_ne_zero, reduceIte] at hrun
                refine ⟨.slice (some ⟨g0, 0, none⟩) (k + 1) cap0, w9, ?_, ?_⟩
                · apply StepG.append (v := u5) (u := .slice (some ⟨b0, 0, none⟩) 1 1)
                  · rfl
                  · kernel_rfl
                  · kernel_rfl
                  · kernel_rfl
                  · exact hrun
                (try simp only [Act.put, List.setIfInBounds_toArray, List.set_cons_zero, List.set_cons_succ])
                clear hrun
                refine AnyG.one 15 (by kernel_rfl) hSt.below rfl rfl ?_
                · obtain ⟨g1, cap1, w9, hrun, hSt⟩ := hSt.append 1 b1 (by decide) (P := Try.prog) (t := 81) (ty := 81) rfl Try.underlying81 hi hz0 hz1 hz2 rfl hkn
                  simp only [upd, v3, Nat.reduceEqDiff, Nat.zero_ne_one, Nat.one_ne_zero, reduceIte] at hrun
                  refine ⟨.slice (some ⟨g1, 0, none⟩) (k + 1) cap1, w9, ?_, ?_⟩
                  · apply StepG.append (v := u6) (u := .slice (some ⟨b1, 0, none⟩) 1 1)
                    · rfl
                    · kernel_rfl
                    · kernel_rfl
                    · kernel_rfl
                    · exact hrun
                  (try simp only [Act.put, List.setIfInBounds_toArray, List.set_cons_zero, List.set_cons_succ])
                  clear hrun
                  refine AnyG.one 23 (by kernel_rfl) hSt.below rfl rfl ?_
                  · obtain ⟨g2, cap2, w9, hrun, hSt⟩ := hSt.append 2 b2 (by decide) (P := Try.prog) (t := 81) (ty := 81) rfl Try.underlying81 hi hz0 hz1 hz2 rfl hkn
                    simp only [upd, v3, Nat.reduceEqDiff, Nat.zero_ne_one, Nat.one_ne_zero, reduceIte] at hrun
                    refine ⟨.slice (some ⟨g2, 0, none⟩) (k + 1) cap2, w9, ?_, ?_⟩
                    · apply StepG.append (v := u7) (u := .slice (some ⟨b2, 0, none⟩) 1 1)
                      · rfl
                      · kernel_rfl
                      · kernel_rfl
                      · kernel_rfl
                      · exact hrun
                    (try simp only [Act.put, List.setIfInBounds_toArray, List.set_cons_zero, List.set_cons_succ])
                    clear hrun
                    refine AnyG.take 24 (v := ?_) rfl rfl (by kernel_rfl) (by kernel_rfl) (by kernel_rfl) (by rfl) (fun w' hw' => ?_) ?_
                    rotate_left
                    · first | (go_simp; done) | (go_simp; with_reducible rfl)
                    (try simp only [Act.put, List.setIfInBounds_toArray, List.set_cons_zero, List.set_cons_succ])
                    refine AnyG.take 25 (v := ?_) rfl rfl (by kernel_rfl) (by kernel_rfl) (by kernel_rfl) (by rfl) (fun w' hw' => ?_) ?_
                    rotate_left
                    · first | (go_simp; done) | (go_simp; with_reducible rfl)
                    (try simp only [Act.put, List.setIfInBounds_toArray, List.set_cons_zero, List.set_cons_succ])
                    refine AnyG.take 26 (v := ?_) rfl rfl (by kernel_rfl) (by kernel_rfl) (by kernel_rfl) (by rfl) (fun w' hw' => ?_) ?_
                    rotate_left
                    · first | (go_simp; done) | (go_simp; with_reducible rfl)
                    (try simp only [Act.put, List.setIfInBounds_toArray, List.set_cons_zero, List.set_cons_succ])
                    refine AnyG.done (by kernel_rfl) hSt.below ?_
                    rw [HQ.out]
                    have hR := HFIN.out _ _ _ _ hSt.below hSt.size (St.leaf HX.out hSt (fun m hm => (by match m, hm with
                      | 0, _ => rfl
                      | 1, _ => rfl
                      | 2, _ => rfl
                      )) (fun m hm => (by match m, hm with
                      | 0, _ => rfl
                      | 1, _ => rfl
                      | 2, _ => rfl
                      )))
                    clear hSt HFIN
                    go_wp2_with fail
                    go_roundw
                    case rel => exact ⟨k + 1, _, _, _, ⟨by omega, by first | rfl | go_num, rfl, rfl, rfl⟩, hR⟩
                    case measure => simp [intOf]; omega
          · refine ⟨.slice (some ⟨wn.heap.size, 0, none⟩) 1 1, wn.alloc (.cells #[.int .i64 x4, .int .i64 x5] 25), ⟨by rfl, by first | (go_simp; done) | (go_simp; with_reducible rfl)⟩, ?_⟩
            have hSt := hSt.build 2
            change St _ _ _ _ _ _ _ _ _ (wn.alloc (.cells #[.int .i64 x4, .int .i64 x5] 25)) at hSt
            generalize wn.heap.size = b2 at hSt ⊢
            generalize wn.alloc (.cells #[.int .i64 x4, .int .i64 x5] 25) = wn at hSt ⊢
            (try simp only [Act.put, List.setIfInBounds_toArray, List.set_cons_zero, List.set_cons_succ])
            refine AnyG.one 6 (by kernel_rfl) hSt.below rfl rfl ?_
            · refine ⟨.slice (some ⟨wn.heap.size, 0, none⟩) 1 1, wn.alloc (.cells #[.int .i64 x0, .int .i64 x1] 25), ⟨by rfl, by first | (go_simp; done) | (go_simp; with_reducible rfl)⟩, ?_⟩
              have hSt := hSt.build 0
              change St _ _ _ _ _ _ _ _ _ (wn.alloc (.cells #[.int .i64 x0, .int .i64 x1] 25)) at hSt
              generalize wn.heap.size = b0 at hSt ⊢
              generalize wn.alloc (.cells #[.int .i64 x0, .int .i64 x1] 25) = wn at hSt ⊢
              (try simp only [Act.put, List.setIfInBounds_toArray, List.set_cons_zero, List.set_cons_succ])
              refine AnyG.one 7 (by kernel_rfl) hSt.below rfl rfl ?_
              · obtain ⟨g0, cap0, w9, hrun, hSt⟩ := hSt.append 0 b0 (by decide) (P := Try.prog) (t := 81) (ty := 81) rfl Try.underlying81 hi hz0 hz1 hz2 rfl hkn
                simp only [upd, v3, Nat.reduceEqDiff, Nat.zero_ne_one, Nat.one_ne_zero, reduceIte] at hrun
                refine ⟨.slice (some ⟨g0, 0, none⟩) (k + 1) cap0, w9, ?_, ?_⟩
                · apply StepG.append (v := u5) (u := .slice (some ⟨b0, 0, none⟩) 1 1)
                  · rfl
                  · kernel_rfl
                  · kernel_rfl
                  · kernel_rfl
                  · exact hrun
                (try simp only [Act.put, List.setIfInBounds_toArray, List.set_cons_zero, List.set_cons_succ])
                clear hrun
                refine AnyG.one 15 (by kernel_rfl) hSt.below rfl rfl ?_
                · obtain ⟨g1, cap1, w9, hrun, hSt⟩ := hSt.append 1 b1 (by decide) (P := Try.prog) (t := 81) (ty := 81) rfl Try.underlying81 hi hz0 hz1 hz2 rfl hkn
                  simp only [upd, v3, Nat.reduceEqDiff, Nat.zero_ne_one, Nat.one_ne_zero, reduceIte] at hrun
                  refine ⟨.slice (some ⟨g1, 0, none⟩) (k + 1) cap1, w9, ?_, ?_⟩
                  · apply StepG.append (v := u6) (u := .slice (some ⟨b1, 0, none⟩) 1 1)
                    · rfl
                    · kernel_rfl
                    · kernel_rfl
                    · kernel_rfl
                    · exact hrun
                  (try simp only [Act.put, List.setIfInBounds_toArray, List.set_cons_zero, List.set_cons_succ])
                  clear hrun
                  refine AnyG.one 23 (by kernel_rfl) hSt.below rfl rfl ?_
                  · obtain ⟨g2, cap2, w9, hrun, hSt⟩ := hSt.append 2 b2 (by decide) (P := Try.prog) (t := 81) (ty := 81) rfl Try.underlying81 hi hz0 hz1 hz2 rfl hkn
                    simp only [upd, v3, Nat.reduceEqDiff, Nat.zero_ne_one, Nat.one_ne_zero, reduceIte] at hrun
                    refine ⟨.slice (some ⟨g2, 0, none⟩) (k + 1) cap2, w9, ?_, ?_⟩
                    · apply StepG.append (v := u7) (u := .slice (some ⟨b2, 0, none⟩) 1 1)
                      · rfl
                      · kernel_rfl
                      · kernel_rfl
                      · kernel_rfl
                      · exact hrun
                    (try simp only [Act.put, List.setIfInBounds_toArray, List.set_cons_zero, List.set_cons_succ])
                    clear hrun
                    refine AnyG.take 24 (v := ?_) rfl rfl (by kernel_rfl) (by kernel_rfl) (by kernel_rfl) (by rfl) (fun w' hw' => ?_) ?_
                    rotate_left
                    · first | (go_simp; done) | (go_simp; with_reducible rfl)
                    (try simp only [Act.put, List.setIfInBounds_toArray, List.set_cons_zero, List.set_cons_succ])
                    refine AnyG.take 25 (v := ?_) rfl rfl (by kernel_rfl) (by kernel_rfl) (by kernel_rfl) (by rfl) (fun w' hw' => ?_) ?_
                    rotate_left
                    · first | (go_simp; done) | (go_simp; with_reducible rfl)
                    (try simp only [Act.put, List.setIfInBounds_toArray, List.set_cons_zero, List.set_cons_succ])
                    refine AnyG.take 26 (v := ?_) rfl rfl (by kernel_rfl) (by kernel_rfl) (by kernel_rfl) (by rfl) (fun w' hw' => ?_) ?_
                    rotate_left
                    · first | (go_simp; done) | (go_simp; with_reducible rfl)
                    (try simp only [Act.put, List.setIfInBounds_toArray, List.set_cons_zero, List.set_cons_succ])
                    refine AnyG.done (by kernel_rfl) hSt.below ?_
                    rw [HQ.out]
                    have hR := HFIN.out _ _ _ _ hSt.below hSt.size (St.leaf HX.out hSt (fun m hm => (by match m, hm with
                      | 0, _ => rfl
                      | 1, _ => rfl
                      | 2, _ => rfl
                      )) (fun m hm => (by match m, hm with
                      | 0, _ => rfl
                      | 1, _ => rfl
                      | 2, _ => rfl
                      )))
                    clear hSt HFIN
                    go_wp2_with fail
                    go_roundw
                    case rel => exact ⟨k + 1, _, _, _, ⟨by omega, by first | rfl | go_num, rfl, rfl, rfl⟩, hR⟩
                    case measure => simp [intOf]; omega
        · refine ⟨.slice (some ⟨wn.heap.size, 0, none⟩) 1 1, wn.alloc (.cells #[.int .i64 x4, .int .i64 x5] 25), ⟨by rfl, by first | (go_simp; done) | (go_simp; with_reducible rfl)⟩, ?_⟩
          have hSt := hSt.build 2
          change St _ _ _ _ _ _ _ _ _ (wn.alloc (.cells #[.int .i64 x4, .int .i64 x5] 25)) at hSt
          generalize wn.heap.size = b2 at hSt ⊢
          generalize wn.alloc (.cells #[.int .i64 x4, .int .i64 x5] 25) = wn at hSt ⊢
          (try simp only [Act.put, List.setIfInBounds_toArray, List.set_cons_zero, List.set_cons_succ])
          refine AnyG.two 6 14 (by kernel_rfl) hSt.below rfl rfl rfl rfl ?_ ?_
          · refine ⟨.slice (some ⟨wn.heap.size, 0, none⟩) 1 1, wn.alloc (.cells #[.int .i64 x0, .int .i64 x1] 25), ⟨by rfl, by first | (go_simp; done) | (go_simp; with_reducible rfl)⟩, ?_⟩
            have hSt := hSt.build 0
            change St _ _ _ _ _ _ _ _ _ (wn.alloc (.cells #[.int .i64 x0, .int .i64 x1] 25)) at hSt
            generalize wn.heap.size = b0 at hSt ⊢
            generalize wn.alloc (.cells #[.int .i64 x0, .int .i64 x1] 25) = wn at hSt ⊢
            (try simp only [Act.put, List.setIfInBounds_toArray, List.set_cons_zero, List.set_cons_succ])
            refine AnyG.two 7 14 (by kernel_rfl) hSt.below rfl rfl rfl rfl ?_ ?_
            · obtain ⟨g0, cap0, w9, hrun, hSt⟩ := hSt.append 0 b0 (by decide) (P := Try.prog) (t := 81) (ty := 81) rfl Try.underlying81 hi hz0 hz1 hz2 rfl hkn
              simp only [upd, v3, Nat.reduceEqDiff, Nat.zero_ne_one, Nat.one_ne_zero, reduceIte] at hrun
              refine ⟨.slice (some ⟨g0, 0, none⟩) (k + 1) cap0, w9, ?_, ?_⟩
              · apply StepG.append (v := u5) (u := .slice (some ⟨b0, 0, none⟩) 1 1)
                · rfl
                · kernel_rfl
                · kernel_rfl
                · kernel_rfl
                · exact hrun
              (try simp only [Act.put, List.setIfInBounds_toArray, List.set_cons_zero, List.set_cons_succ])
              clear hrun
              refine AnyG.one 14 (by kernel_rfl) hSt.below rfl rfl ?_
              · refine ⟨.slice (some ⟨w9.heap.size, 0, none⟩) 1 1, w9.alloc (.cells #[.int .i64 x2, .int .i64 x3] 25), ⟨by rfl, by first | (go_simp; done) | (go_simp; with_reducible rfl)⟩, ?_⟩
                have hSt := hSt.build 1
                change St _ _ _ _ _ _ _ _ _ (w9.alloc (.cells #[.int .i64 x2, .int .i64 x3] 25)) at hSt
                generalize w9.heap.size = b1 at hSt ⊢
                generalize w9.alloc (.cells #[.int .i64 x2, .int .i64 x3] 25) = w9 at hSt ⊢
                (try simp only [Act.put, List.setIfInBounds_toArray, List.set_cons_zero, List.set_cons_succ])
                refine AnyG.one 15 (by kernel_rfl) hSt.below rfl rfl ?_
                · obtain ⟨g1, cap1, w9, hrun, hSt⟩ := hSt.append 1 b1 (by decide) (P := Try.prog) (t := 81) (ty := 81) rfl Try.underlying81 hi hz0 hz1 hz2 rfl hkn
                  simp only [upd, v3, Nat.reduceEqDiff, Nat.zero_ne_one, Nat.one_ne_zero, reduceIte] at hrun
                  refine ⟨.slice (some ⟨g1, 0, none⟩) (k + 1) cap1, w9, ?_, ?_⟩
                  · apply StepG.append (v := u6) (u := .slice (some ⟨b1, 0, none⟩) 1 1)
                    · rfl
                    · kernel_rfl
                    · kernel_rfl
                    · kernel_rfl
                    · exact hrun
                  (try simp only [Act.put, List.setIfInBounds_toArray, List.set_cons_zero, List.set_cons_succ])
                  clear hrun
                  refine AnyG.one 23 (by kernel_rfl) hSt.below rfl rfl ?_
                  · obtain ⟨g2, cap2, w9, hrun, hSt⟩ := hSt.append 2 b2 (by decide) (P := Try.prog) (t := 81) (ty := 81) rfl Try.underlying81 hi hz0 hz1 hz2 rfl hkn
                    simp only [upd, v3, Nat.reduceEqDiff, Nat.zero_ne_one, Nat.one_ne_zero, reduceIte] at hrun
                    refine ⟨.slice (some ⟨g2, 0, none⟩) (k + 1) cap2, w9, ?_, ?_⟩
                    · apply StepG.append (v := u7) (u := .slice (some ⟨b2, 0, none⟩) 1 1)
                      · rfl
                      · kernel_rfl
                      · kernel_rfl
                      · kernel_rfl
                      · exact hrun
                    (try simp only [Act.put, List.setIfInBounds_toArray, List.set_cons_zero, List.set_cons_succ])
                    clear hrun
                    refine AnyG.take 24 (v := ?_) rfl rfl (by kernel_rfl) (by kernel_rfl) (by kernel_rfl) (by rfl) (fun w' hw' => ?_) ?_
                    rotate_left
                    · first | (go_simp; done) | (go_simp; with_reducible rfl)
                    (try simp only [Act.put, List.setIfInBounds_toArray, List.set_cons_zero, List.set_cons_succ])
                    refine AnyG.take 25 (v := ?_) rfl rfl (by kernel_rfl) (by kernel_rfl) (by kernel_rfl) (by rfl) (fun w' hw' => ?_) ?_
                    rotate_left
                    · first | (go_simp; done) | (go_simp; with_reducible rfl)
                    (try simp only [Act.put, List.setIfInBounds_toArray, List.set_cons_zero, List.set_cons_succ])
                    refine AnyG.take 26 (v := ?_) rfl rfl (by kernel_rfl) (by kernel_rfl) (by kernel_rfl) (by rfl) (fun w' hw' => ?_) ?_
                    rotate_left
                    · first | (go_simp; done) | (go_simp; with_reducible rfl)
                    (try simp only [Act.put, List.setIfInBounds_toArray, List.set_cons_zero, List.set_cons_succ])
                    refine AnyG.done (by kernel_rfl) hSt.below ?_
                    rw [HQ.out]
                    have hR := HFIN.out _ _ _ _ hSt.below hSt.size (St.leaf HX.out hSt (fun m hm => (by match m, hm with
                      | 0, _ => rfl
                      | 1, _ => rfl
                      | 2, _ => rfl
                      )) (fun m hm => (by match m, hm with
                      | 0, _ => rfl
                      | 1, _ => rfl
                      | 2, _ => rfl
                      )))
                    clear hSt HFIN
                    go_wp2_with fail
                    go_roundw
                    case rel => exact ⟨k + 1, _, _, _, ⟨by omega, by first | rfl | go_num, rfl, rfl, rfl⟩, hR⟩
                    case measure => simp [intOf]; omega
            · refine ⟨.slice (some ⟨wn.heap.size, 0, none⟩) 1 1, wn.alloc (.cells #[.int .i64 x2, .int .i64 x3] 25), ⟨by rfl, by first | (go_simp; done) | (go_simp; with_reducible rfl)⟩, ?_⟩
              have hSt := hSt.build 1
              change St _ _ _ _ _ _ _ _ _ (wn.alloc (.cells #[.int .i64 x2, .int .i64 x3] 25)) at hSt
              generalize wn.heap.size = b1 at hSt ⊢
              generalize wn.alloc (.cells #[.int .i64 x2, .int .i64 x3] 25) = wn at hSt ⊢
              (try simp only [Act.put, List.setIfInBounds_toArray, List.set_cons_zero, List.set_cons_succ])
              refine AnyG.one 7 (by kernel_rfl) hSt.below rfl rfl ?_
              · obtain ⟨g0, cap0, w9, hrun, hSt⟩ := hSt.append 0 b0 (by decide) (P := Try.prog) (t := 81) (ty := 81) rfl Try.underlying81 hi hz0 hz1 hz2 rfl hkn
                simp only [upd, v3, Nat.reduceEqDiff, Nat.zero_ne_one, Nat.one_ne_zero, reduceIte] at hrun
                refine ⟨.slice (some ⟨g0, 0, none⟩) (k + 1) cap0, w9, ?_, ?_⟩
                · apply StepG.append (v := u5) (u := .slice (some ⟨b0, 0, none⟩) 1 1)
                  · rfl
                  · kernel_rfl
                  · kernel_rfl
                  · kernel_rfl
                  · exact hrun
                (try simp only [Act.put, List.setIfInBounds_toArray, List.set_cons_zero, List.set_cons_succ])
                clear hrun
                refine AnyG.one 15 (by kernel_rfl) hSt.below rfl rfl ?_
                · obtain ⟨g1, cap1, w9, hrun, hSt⟩ := hSt.append 1 b1 (by decide) (P := Try.prog) (t := 81) (ty := 81) rfl Try.underlying81 hi hz0 hz1 hz2 rfl hkn
                  simp only [upd, v3, Nat.reduceEqDiff, Nat.zero_ne_one, Nat.one_ne_zero, reduceIte] at hrun
                  refine ⟨.slice (some ⟨g1, 0, none⟩) (k + 1) cap1, w9, ?_, ?_⟩
                  · apply StepG.append (v := u6) (u := .slice (some ⟨b1, 0, none⟩) 1 1)
                    · rfl
                    · kernel_rfl
                    · kernel_rfl
                    · kernel_rfl
                    · exact hrun
                  (try simp only [Act.put, List.setIfInBounds_toArray, List.set_cons_zero, List.set_cons_succ])
                  clear hrun
                  refine AnyG.one 23 (by kernel_rfl) hSt.below rfl rfl ?_
                  · obtain ⟨g2, cap2, w9, hrun, hSt⟩ := hSt.append 2 b2 (by decide) (P := Try.prog) (t := 81) (ty := 81) rfl Try.underlying81 hi hz0 hz1 hz2 rfl hkn
                    simp only [upd, v3, Nat.reduceEqDiff, Nat.zero_ne_one, Nat.one_ne_zero, reduceIte] at hrun
                    refine ⟨.slice (some ⟨g2, 0, none⟩) (k + 1) cap2, w9, ?_, ?_⟩
                    · apply StepG.append (v := u7) (u := .slice (some ⟨b2, 0, none⟩) 1 1)
                      · rfl
                      · kernel_rfl
                      · kernel_rfl
                      · kernel_rfl
                      · exact hrun
                    (try simp only [Act.put, List.setIfInBounds_toArray, List.set_cons_zero, List.set_cons_succ])
                    clear hrun
                    refine AnyG.take 24 (v := ?_) rfl rfl (by kernel_rfl) (by kernel_rfl) (by kernel_rfl) (by rfl) (fun w' hw' => ?_) ?_
                    rotate_left
                    · first | (go_simp; done) | (go_simp; with_reducible rfl)
                    (try simp only [Act.put, List.setIfInBounds_toArray, List.set_cons_zero, List.set_cons_succ])
                    refine AnyG.take 25 (v := ?_) rfl rfl (by kernel_rfl) (by kernel_rfl) (by kernel_rfl) (by rfl) (fun w' hw' => ?_) ?_
                    rotate_left
                    · first | (go_simp; done) | (go_simp; with_reducible rfl)
                    (try simp only [Act.put, List.setIfInBounds_toArray, List.set_cons_zero, List.set_cons_succ])
                    refine AnyG.take 26 (v := ?_) rfl rfl (by kernel_rfl) (by kernel_rfl) (by kernel_rfl) (by rfl) (fun w' hw' => ?_) ?_
                    rotate_left
                    · first | (go_simp; done) | (go_simp; with_reducible rfl)
                    (try simp only [Act.put, List.setIfInBounds_toArray, List.set_cons_zero, List.set_cons_succ])
                    refine AnyG.done (by kernel_rfl) hSt.below ?_
                    rw [HQ.out]
                    have hR := HFIN.out _ _ _ _ hSt.below hSt.size (St.leaf HX.out hSt (fun m hm => (by match m, hm with
                      | 0, _ => rfl
                      | 1, _ => rfl
                      | 2, _ => rfl
                      )) (fun m hm => (by match m, hm with
                      | 0, _ => rfl
                      | 1, _ => rfl
                      | 2, _ => rfl
                      )))
                    clear hSt HFIN
                    go_wp2_with fail
                    go_roundw
                    case rel => exact ⟨k + 1, _, _, _, ⟨by omega, by first | rfl | go_num, rfl, rfl, rfl⟩, hR⟩
                    case measure => simp [intOf]; omega
          · refine ⟨.slice (some ⟨wn.heap.size, 0, none⟩) 1 1, wn.alloc (.cells #[.int .i64 x2, .int .i64 x3] 25), ⟨by rfl, by first | (go_simp; done) | (go_simp; with_reducible rfl)⟩, ?_⟩
            have hSt := hSt.build 1
            change St _ _ _ _ _ _ _ _ _ (wn.alloc (.cells #[.int .i64 x2, .int .i64 x3] 25)) at hSt
            generalize wn.heap.size = b1 at hSt ⊢
            generalize wn.alloc (.cells #[.int .i64 x2, .int .i64 x3] 25) = wn at hSt ⊢
            (try simp only [Act.put, List.setIfInBounds_toArray, List.set_cons_zero, List.set_cons_succ])
            refine AnyG.one 6 (by kernel_rfl) hSt.below rfl rfl ?_
            · refine ⟨.slice (some ⟨wn.heap.size, 0, none⟩) 1 1, wn.alloc (.cells #[.int .i64 x0, .int .i64 x1] 25), ⟨by rfl, by first | (go_simp; done) | (go_simp; with_reducible rfl)⟩, ?_⟩
              have hSt := hSt.build 0
              change St _ _ _ _ _ _ _ _ _ (wn.alloc (.cells #[.int .i64 x0, .int .i64 x1] 25)) at hSt
              generalize wn.heap.size = b0 at hSt ⊢
              generalize wn.alloc (.cells #[.int .i64 x0, .int .i64 x1] 25) = wn at hSt ⊢
              (try simp only [Act.put, List.setIfInBounds_toArray, List.set_cons_zero, List.set_cons_succ])
              refine AnyG.one 7 (by kernel_rfl) hSt.below rfl rfl ?_
              · obtain ⟨g0, cap0, w9, hrun, hSt⟩ := hSt.append 0 b0 (by decide) (P := Try.prog) (t := 81) (ty := 81) rfl Try.underlying81 hi hz0 hz1 hz2 rfl hkn
                simp only [upd, v3, Nat.reduceEqDiff, Nat.zero_ne_one, Nat.one_ne_zero, reduceIte] at hrun
                refine ⟨.slice (some ⟨g0, 0, none⟩) (k + 1) cap0, w9, ?_, ?_⟩
                · apply StepG.append (v := u5) (u := .slice (some ⟨b0, 0, none⟩) 1 1)
                  · rfl
                  · kernel_rfl
                  · kernel_rfl
                  · kernel_rfl
                  · exact hrun
                (try simp only [Act.put, List.setIfInBounds_toArray, List.set_cons_zero, List.set_cons_succ])
                clear hrun
                refine AnyG.one 15 (by kernel_rfl) hSt.below rfl rfl ?_
                · obtain ⟨g1, cap1, w9, hrun, hSt⟩ := hSt.append 1 b1 (by decide) (P := Try.prog) (t := 81) (ty := 81) rfl Try.underlying81 hi hz0 hz1 hz2 rfl hkn
                  simp only [upd, v3, Nat.reduceEqDiff, Nat.zero_ne_one, Nat.one_ne_zero, reduceIte] at hrun
                  refine ⟨.slice (some ⟨g1, 0, none⟩) (k + 1) cap1, w9, ?_, ?_⟩
                  · apply StepG.append (v := u6) (u := .slice (some ⟨b1, 0, none⟩) 1 1)
                    · rfl
                    · kernel_rfl
                    · kernel_rfl
                    · kernel_rfl
                    · exact hrun
                  (try simp only [Act.put, List.setIfInBounds_toArray, List.set_cons_zero, List.set_cons_succ])
                  clear hrun
                  refine AnyG.one 23 (by kernel_rfl) hSt.below rfl rfl ?_
                  · obtain ⟨g2, cap2, w9, hrun, hSt⟩ := hSt.append 2 b2 (by decide) (P := Try.prog) (t := 81) (ty := 81) rfl Try.underlying81 hi hz0 hz1 hz2 rfl hkn
                    simp only [upd, v3, Nat.reduceEqDiff, Nat.zero_ne_one, Nat.one_ne_zero, reduceIte] at hrun
                    refine ⟨.slice (some ⟨g2, 0, none⟩) (k + 1) cap2, w9, ?_, ?_⟩
                    · apply StepG.append (v := u7) (u := .slice (some ⟨b2, 0, none⟩) 1 1)
                      · rfl
                      · kernel_rfl
                      · kernel_rfl
                      · kernel_rfl
                      · exact hrun
                    (try simp only [Act.put, List.setIfInBounds_toArray, List.set_cons_zero, List.set_cons_succ])
                    clear hrun
                    refine AnyG.take 24 (v := ?_) rfl rfl (by kernel_rfl) (by kernel_rfl) (by kernel_rfl) (by rfl) (fun w' hw' => ?_) ?_
                    rotate_left
                    · first | (go_simp; done) | (go_simp; with_reducible rfl)
                    (try simp only [Act.put, List.setIfInBounds_toArray, List.set_cons_zero, List.set_cons_succ])
                    refine AnyG.take 25 (v := ?_) rfl rfl (by kernel_rfl) (by kernel_rfl) (by kernel_rfl) (by rfl) (fun w' hw' => ?_) ?_
                    rotate_left
                    · first | (go_simp; done) | (go_simp; with_reducible rfl)
                    (try simp only [Act.put, List.setIfInBounds_toArray, List.set_cons_zero, List.set_cons_succ])
                    refine AnyG.take 26 (v := ?_) rfl rfl (by kernel_rfl) (by kernel_rfl) (by kernel_rfl) (by rfl) (fun w' hw' => ?_) ?_
                    rotate_left
                    · first | (go_simp; done) | (go_simp; with_reducible rfl)
                    (try simp only [Act.put, List.setIfInBounds_toArray, List.set_cons_zero, List.set_cons_succ])
                    refine AnyG.done (by kernel_rfl) hSt.below ?_
                    rw [HQ.out]
                    have hR := HFIN.out _ _ _ _ hSt.below hSt.size (St.leaf HX.out hSt (fun m hm => (by match m, hm with
                      | 0, _ => rfl
                      | 1, _ => rfl
                      | 2, _ => rfl
                      )) (fun m hm => (by match m, hm with
                      | 0, _ => rfl
                      | 1, _ => rfl
                      | 2, _ => rfl
                      )))
                    clear hSt HFIN
                    go_wp2_with fail
                    go_roundw
                    case rel => exact ⟨k + 1, _, _, _, ⟨by omega, by first | rfl | go_num, rfl, rfl, rfl⟩, hR⟩
                    case measure => simp [intOf]; omega
      · have hnz : (ee != 0) = true := by simp [hz]
        have HD := Lib.hid hz
        clear hz
        obtain ⟨c0, c1, c2, c3, c4, c5⟩ := set6 (W := wc) r0 r1 r2 r3 r4 r5 (.int .i64 0) (.int .i64 0) (.int .i64 0) (.int .i64 0) (.int .i64 0) (.int .i64 0)
        go_wp2_with ((with_reducible refine bodyPost_ret (v := .tuple #[.agg #[.int .i64 0, .int .i64 0, .int .i64 0, .int .i64 0, .int .i64 0, .int .i64 0], .int .i64 ee]) ?_ rfl ?_); (simp [results, Try.results11, go_sem, c0, c1, c2, c3, c4, c5]); exact ⟨by have e1 := HE.out.1.trans HS.out; rw [if_neg HD.out] at e1; rw [mixR, e1, if_pos HD.out], by rw [hB0]; exact (((((hB.setCell (Nat.le_refl _) _).setCell (Nat.le_refl _) _).setCell (Nat.le_refl _) _).setCell (Nat.le_refl _) _).setCell (Nat.le_refl _) _).setCell (Nat.le_refl _) _⟩)
    · obtain rfl : k = n := by omega
      have HB9 : Hid (mixB f k 0 = 0) := Lib.hid (HE.out.1.trans (by rw [Nat.sub_self]; rfl))
      have HV := Lib.hid HE.out.2
      obtain ⟨ga, ca, gb, cb, gc, cc, rfl, rfl, rfl, hA, hB9, hC⟩ := HRW.out.cells h0
      have HCE := Lib.hid (And.intro hA (And.intro hB9 hC))
      have hvb := vLo_bd HV.out k (Nat.le_refl _)
      have hsr : B0 < wr.heap.size := World.block_lt_of_cell? wr _ r0
      have hsp : B0 + 1 < wr.heap.size := World.block_lt_of_cell? wr _ p0
      obtain ⟨VL, hVL⟩ : ∃ x, vLo f k = x := ⟨_, rfl⟩
      obtain ⟨VH, hVH⟩ : ∃ x, vHi f k = x := ⟨_, rfl⟩
      rw [hVL, hVH] at hvb
      rw [hVL] at p0
      rw [hVH] at p1
      have HVL := Lib.hid hVL
      have HVH := Lib.hid hVH
      clear hA hB9 hC hVL hVH HE HRW HC hlt hsz
      by_cases hq : VH = 0
      · have HQ := Lib.hid hq
        subst hq
        obtain ⟨c0, c1, c2, c3, c4, c5⟩ := set6 (W := wr) r0 r1 r2 r3 r4 r5 (.int .i64 0) (.int .i64 0) (.int .i64 0) (.int .i64 0) (.int .i64 0) (.int .i64 0)
        go_wp2_with ((with_reducible refine bodyPost_ret (v := .tuple #[.agg #[.int .i64 0, .int .i64 0, .int .i64 0, .int .i64 0, .int .i64 0, .int .i64 0], .int .i64 25]) ?_ rfl ?_); (simp [results, Try.results11, go_sem, c0, c1, c2, c3, c4, c5]); exact ⟨by rw [mixR, if_neg (by rw [HB9.out]; decide)]; rw [mixV, HVH.out]; rfl, by rw [hB0]; exact (((((hB.setCell (Nat.le_refl _) _).setCell (Nat.le_refl _) _).setCell (Nat.le_refl _) _).setCell (Nat.le_refl _) _).setCell (Nat.le_refl _) _).setCell (Nat.le_refl _) _⟩)
      · have hq1 : (VH == 0) = false := by simpa using hq
        by_cases hq2 : 100000 < VH
        · have HQ := Lib.hid hq2
          obtain ⟨c0, c1, c2, c3, c4, c5⟩ := set6 (W := wr) r0 r1 r2 r3 r4 r5 (.int .i64 0) (.int .i64 0) (.int .i64 0) (.int .i64 0) (.int .i64 0) (.int .i64 0)
          go_wp2_with ((with_reducible refine bodyPost_ret (v := .tuple #[.agg #[.int .i64 0, .int .i64 0, .int .i64 0, .int .i64 0, .int .i64 0, .int .i64 0], .int .i64 8]) ?_ rfl ?_); (simp [results, Try.results11, go_sem, c0, c1, c2, c3, c4, c5]); exact ⟨by have h2 := HQ.out; have e : mixV f k = 8 := (by rw [mixV, HVH.out, show decide (0 < VH) = true by simp; omega, show decide (VH ≤ 100000) = false by simp; omega]; rfl); rw [mixR, if_neg (by rw [HB9.out]; decide), e]; rfl, by rw [hB0]; exact (((((hB.setCell (Nat.le_refl _) _).setCell (Nat.le_refl _) _).setCell (Nat.le_refl _) _).setCell (Nat.le_refl _) _).setCell (Nat.le_refl _) _).setCell (Nat.le_refl _) _⟩)
        · have hq3 : VH ≤ 100000 := by omega
          have HEV : Hid (mixV f k = 0) := Lib.hid (by rw [mixV, HVH.out, show decide (0 < VH) = true by simp; omega, show decide (VH ≤ 100000) = true by simp; omega]; rfl)
          have HP : Hid (0 < vHi f k) := Lib.hid (by rw [HVH.out]; omega)
          obtain ⟨s0, hs0⟩ : ∃ x, loF f Wn.s0 k (choices f k (2 ^ k)) = x := ⟨_, rfl⟩
          obtain ⟨s1, hs1⟩ : ∃ x, hiF f Wn.s1 k (choices f k (2 ^ k)) = x := ⟨_, rfl⟩
          obtain ⟨c0, hc0⟩ : ∃ x, loF f Wn.c0 k (choices f k (2 ^ k)) = x := ⟨_, rfl⟩
          obtain ⟨c1, hc1⟩ : ∃ x, hiF f Wn.c1 k (choices f k (2 ^ k)) = x := ⟨_, rfl⟩
          have HMS : Hid (∀ w', Below wr.heap.size wr w' → Calls Try.prog 38 #[.slice (some ⟨ga, 0, none⟩) k ca, .slice (some ⟨gb, 0, none⟩) k cb] w' fun e w'' => e = .returned (.agg #[.int .i64 s0, .int .i64 s1]) ∧ Below w'.heap.size w' w'') := Lib.hid fun w' hw' => by
            have := rmean_any f Wn.s0 Wn.s1 ga 0 ca gb 0 cb k w' h0 hn HV.out (fun i hi => (err_bds (HV.out i hi)).1.1) (fun i hi => (err_bds (HV.out i hi)).1.2) (fun i hi => ⟨keepC hw' (HCE.out.1 i hi).1, keepC hw' (HCE.out.1 i hi).2⟩) (fun i hi => ⟨keepC hw' (HCE.out.2.1 i hi).1, keepC hw' (HCE.out.2.1 i hi).2⟩) HP.out
            rw [hs0, hs1] at this
            exact this
          have HMC : Hid (∀ w', Below wr.heap.size wr w' → Calls Try.prog 38 #[.slice (some ⟨ga, 0, none⟩) k ca, .slice (some ⟨gc, 0, none⟩) k cc] w' fun e w'' => e = .returned (.agg #[.int .i64 c0, .int .i64 c1]) ∧ Below w'.heap.size w' w'') := Lib.hid fun w' hw' => by
            have := rmean_any f Wn.c0 Wn.c1 ga 0 ca gc 0 cc k w' h0 hn HV.out (fun i hi => (err_bds (HV.out i hi)).2.1) (fun i hi => (err_bds (HV.out i hi)).2.2) (fun i hi => ⟨keepC hw' (HCE.out.1 i hi).1, keepC hw' (HCE.out.1 i hi).2⟩) (fun i hi => ⟨keepC hw' (HCE.out.2.2 i hi).1, keepC hw' (HCE.out.2.2 i hi).2⟩) HP.out
            rw [hc0, hc1] at this
            exact this
          have HSS := Lib.hid (And.intro (And.intro hs0 hs1) (And.intro hc0 hc1))
          clear hs0 hs1 hc0 hc1 HCE
          go_upto_region 20 with (go_at_call 38; first | ((with_reducible refine Calls.mono (HMS.out _ (Below.refl _ _)) ?_); rintro e w1 ⟨rfl, hb1⟩) | ((with_reducible refine Calls.mono (HMC.out _ hb1) ?_); rintro e w2 ⟨rfl, hb2⟩; have hb := belowSeq hb2 hb1; have P0 := keepC hb p0; have PZ0 := keepF hb p0 pz0; have P1 := keepC hb p1; have PZ1 := keepF hb p1 pz1; have P2 := keepC hb p2; have PZ2 := keepF hb p2 pz2; have P3 := keepC hb p3; have PZ3 := keepF hb p3 pz3; have P4 := keepC hb p4; have PZ4 := keepF hb p4 pz4; have P5 := keepC hb p5; have PZ5 := keepF hb p5 pz5))
          obtain ⟨e0, e1, e2, e3, e4, e5⟩ := set4 (keepC hb p0) (keepC hb p1) (keepC hb p2) (keepC hb p3) (keepC hb p4) (keepC hb p5) (.int .i64 s0) (.int .i64 s1) (.int .i64 c0) (.int .i64 c1)
          have hB4 : Below B0 w ((((w2.setCell ⟨B0 + 1, 2, none⟩ (.int .i64 s0)).setCell ⟨B0 + 1, 3, none⟩ (.int .i64 s1)).setCell ⟨B0 + 1, 4, none⟩ (.int .i64 c0)).setCell ⟨B0 + 1, 5, none⟩ (.int .i64 c1)) := ((((hB.trans (hb.mono (by omega))).setCell (by show B0 ≤ B0 + 1; omega) _).setCell (by show B0 ≤ B0 + 1; omega) _).setCell (by show B0 ≤ B0 + 1; omega) _).setCell (by show B0 ≤ B0 + 1; omega) _
          have oth : ∀ i, ((((w2.setCell ⟨B0 + 1, 2, none⟩ (.int .i64 s0)).setCell ⟨B0 + 1, 3, none⟩ (.int .i64 s1)).setCell ⟨B0 + 1, 4, none⟩ (.int .i64 c0)).setCell ⟨B0 + 1, 5, none⟩ (.int .i64 c1)).cell? ⟨B0, i, none⟩ = w2.cell? ⟨B0, i, none⟩ := fun i => by
            have e : ∀ (V : World) (j : Nat) (x : Value), (V.setCell ⟨B0 + 1, j, none⟩ x).cell? ⟨B0, i, none⟩ = V.cell? ⟨B0, i, none⟩ := fun V j x => World.cell?_setCell_other _ _ _ _ (by intro q; injection q with q1 q2; omega)
            rw [e, e, e, e]
          have fz : ∀ p, ((((w2.setCell ⟨B0 + 1, 2, none⟩ (.int .i64 s0)).setCell ⟨B0 + 1, 3, none⟩ (.int .i64 s1)).setCell ⟨B0 + 1, 4, none⟩ (.int .i64 c0)).setCell ⟨B0 + 1, 5, none⟩ (.int .i64 c1)).frozen? p = w2.frozen? p := fun p => by simp only [World.frozen?_setCell]
          refine nameWorld (fun w' => w'.cell? ⟨B0, 0, none⟩ = some (.int .i64 0) ∧ w'.cell? ⟨B0, 1, none⟩ = some (.int .i64 0) ∧ w'.cell? ⟨B0, 2, none⟩ = some (.int .i64 0) ∧ w'.cell? ⟨B0, 3, none⟩ = some (.int .i64 0) ∧ w'.cell? ⟨B0, 4, none⟩ = some (.int .i64 0) ∧ w'.cell? ⟨B0, 5, none⟩ = some (.int .i64 0) ∧ w'.frozen? ⟨B0, 0, none⟩ = false ∧ w'.frozen? ⟨B0, 1, none⟩ = false ∧ w'.frozen? ⟨B0, 2, none⟩ = false ∧ w'.frozen? ⟨B0, 3, none⟩ = false ∧ w'.frozen? ⟨B0, 4, none⟩ = false ∧ w'.frozen? ⟨B0, 5, none⟩ = false ∧ w'.cell? ⟨B0 + 1, 0, none⟩ = some (.int .i64 VL) ∧ w'.cell? ⟨B0 + 1, 1, none⟩ = some (.int .i64 VH) ∧ w'.cell? ⟨B0 + 1, 2, none⟩ = some (.int .i64 s0) ∧ w'.cell? ⟨B0 + 1, 3, none⟩ = some (.int .i64 s1) ∧ w'.cell? ⟨B0 + 1, 4, none⟩ = some (.int .i64 c0) ∧ w'.cell? ⟨B0 + 1, 5, none⟩ = some (.int .i64 c1) ∧ Below B0 w w') ⟨(oth _).trans (keepC hb r0), (oth _).trans (keepC hb r1), (oth _).trans (keepC hb r2), (oth _).trans (keepC hb r3), (oth _).trans (keepC hb r4), (oth _).trans (keepC hb r5), (fz _).trans (keepF hb r0 rz0), (fz _).trans (keepF hb r1 rz1), (fz _).trans (keepF hb r2 rz2), (fz _).trans (keepF hb r3 rz3), (fz _).trans (keepF hb r4 rz4), (fz _).trans (keepF hb r5 rz5), e0, e1, e2, e3, e4, e5, hB4⟩ (fun wd hd => ?_)
          clear oth fz hB4 P0 PZ0 P1 PZ1 P2 PZ2 P3 PZ3 P4 PZ4 P5 PZ5 hb hb1 hb2 hB hsr hsp r0 r1 r2 r3 r4 r5 rz0 rz1 rz2 rz3 rz4 rz5 p0 p1 p2 p3 p4 p5 pz0 pz1 pz2 pz3 pz4 pz5 e0 e1 e2 e3 e4 e5
          obtain ⟨r0, r1, r2, r3, r4, r5, rz0, rz1, rz2, rz3, rz4, rz5, p0, p1, p2, p3, p4, p5, hB⟩ := hd
          have hsr : B0 < wd.heap.size := World.block_lt_of_cell? wd _ r0
          have hsp : B0 + 1 < wd.heap.size := World.block_lt_of_cell? wd _ p0
          obtain ⟨e0, e1, e2, e3, e4, e5⟩ := set6 (W := wd) r0 r1 r2 r3 r4 r5 (.int .i64 VL) (.int .i64 VH) (.int .i64 s0) (.int .i64 s1) (.int .i64 c0) (.int .i64 c1)
          go_wp2_with ((with_reducible refine bodyPost_ret (v := .tuple #[.agg #[.int .i64 VL, .int .i64 VH, .int .i64 s0, .int .i64 s1, .int .i64 c0, .int .i64 c1], .int .i64 0]) ?_ rfl ?_); (simp [results, Try.results11, go_sem, e0, e1, e2, e3, e4, e5]); exact ⟨by obtain ⟨⟨a0, a1⟩, a2, a3⟩ := HSS.out; rw [mixR, if_neg (by rw [HB9.out]; decide), if_neg (by rw [HEV.out]; decide), HVL.out, HVH.out, a0, a1, a2, a3], by rw [hB0]; exact (((((hB.setCell (Nat.le_refl _) _).setCell (Nat.le_refl _) _).setCell (Nat.le_refl _) _).setCell (Nat.le_refl _) _).setCell (Nat.le_refl _) _).setCell (Nat.le_refl _) _⟩)
end Go.Proofs.Ytbijhcoloajjaaa
