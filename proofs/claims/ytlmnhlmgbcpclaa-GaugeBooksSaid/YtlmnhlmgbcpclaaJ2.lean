/- gauge's areasOf: the areas of a circle up to each of its levels. -/
import Derived.Test.YtlmnhlmgbcpclaaJ1
import Derived.Test.YtlmnhlmgbcpclaaH1
import Derived.Deep.AppendLies
import Derived.Laws.OwnMore
import Derived.OneCell
namespace Go.Proofs.Ytlmnhlmgbcpclaa
open Go.RowKit

def arX (R : Int) (n : Nat) : List Value := (List.range n).flatMap fun j => [.int .i64 (arLo R j), .int .i64 (arHi R j)]
theorem arX_succ (R : Int) (n : Nat) : arX R (n + 1) = arX R n ++ [.int .i64 (arLo R n), .int .i64 (arHi R n)] := by
  unfold arX
  rw [List.range_succ, List.flatMap_append]
  rfl
theorem arX_len (R : Int) : ∀ n, (arX R n).length = n * 2
  | 0 => rfl
  | n + 1 => by rw [arX_succ, List.length_append, arX_len R n]; simp; omega
theorem arX_at (R : Int) : ∀ n i, i < n → (arX R n)[i * 2]? = some (.int .i64 (arLo R i)) ∧ (arX R n)[i * 2 + 1]? = some (.int .i64 (arHi R i))
  | 0, _, h => by omega
  | n + 1, i, h => by
    rw [arX_succ]
    by_cases e : i = n
    · subst e
      rw [List.getElem?_append_right (by rw [arX_len]; omega), List.getElem?_append_right (by rw [arX_len]; omega), arX_len]
      rw [show i * 2 - i * 2 = 0 by omega, show i * 2 + 1 - i * 2 = 1 by omega]
      exact ⟨rfl, rfl⟩
    · have := arX_at R n i (by omega)
      rw [List.getElem?_append_left (by rw [arX_len]; omega), List.getElem?_append_left (by rw [arX_len]; omega)]
      exact this
theorem rangeInfo : (Try.prog.info? 23).map (fun i => (i.zero, i.size, i.bytes)) = some (some (.agg #[.int .i64 0, .int .i64 0]), 2, 16) := by kernel_rfl
theorem newBoth {Wp W2 : World} {cs : Array Value} {t : TypeId} {B : Nat} (hB : Wp.heap.size = B) (h2 : Below (Wp.alloc (.cells cs t)).heap.size (Wp.alloc (.cells cs t)) W2) (i : Nat) (v : Value) (hv : cs[i]? = some v) : W2.cell? ⟨B, i, none⟩ = some v ∧ W2.frozen? ⟨B, i, none⟩ = false := by
  subst hB; exact newHeld h2 i v hv
theorem belowSeq2 {A B C : World} (h : Below A.heap.size A B) (k : Below B.heap.size B C) : Below A.heap.size A C := h.trans (k.mono h.size)
theorem rowBelowZ {B : Nat} {e : TypeId} {k : Nat} {v : Value} {n : Nat} {xs : List Value} {w w' : World} (h : w.ownsRow B e k v n xs) (hb : Below w.heap.size w w') : w'.ownsRow B e k v n xs :=
  h.kept (row := none) ⟨hb.os, hb.tape, hb.output, hb.size, fun j hj _ => hb.block j hj⟩ (by cases hv : v.ownBlock <;> simp)
set_option linter.unusedVariables false in
set_option linter.unusedSimpArgs false in
set_option maxRecDepth 100000 in
set_option maxHeartbeats 4000000 in
theorem areasOf_new (ρ : Nat) (w : World) (h10 : 10 ≤ ρ) (h8 : ρ ≤ 800) : Calls Try.prog 69 #[.int .i64 (ρ : Int)] w fun e w' => (∃ g cap, e = .returned (.slice (some ⟨g, 0, none⟩) (2 * ρ + 1) cap) ∧ w.heap.size ≤ g ∧ ∀ j, j ≤ 2 * ρ → w'.cell? ⟨g, 0 + j * 2, none⟩ = some (.int .i64 (arLo (ρ : Int) j)) ∧ w'.cell? ⟨g, 0 + j * 2 + 1, none⟩ = some (.int .i64 (arHi (ρ : Int) j))) ∧ Below w.heap.size w w' := by
  obtain ⟨i0, hi, hz0, hz1, hz2⟩ := info_parts rangeInfo
  have v0 : IntKind.i64.wrap (2 * (ρ : Int)) = 2 * (ρ : Int) := IntWalk.i64_in _ (by omega)
  have v1 : IntKind.i64.wrap (2 * (ρ : Int) + 1) = 2 * (ρ : Int) + 1 := IntWalk.i64_in _ (by omega)
  have v2 : IntKind.i64.wrap (-(ρ : Int)) = -(ρ : Int) := IntWalk.i64_in _ (by omega)
  have v3 : IntKind.i64.wrap (1 - (ρ : Int)) = 1 - (ρ : Int) := IntWalk.i64_in _ (by omega)
  go_enter Try.func69, Try.ntmps69
  go_upto_region 2 with fail
  obtain ⟨B0, hB0⟩ : ∃ B, w.heap.size = B := ⟨_, rfl⟩
  rw [hB0]
  refine nameWorld (fun w' => w'.cell? ⟨B0, 0, none⟩ = some (.int .i64 0) ∧ w'.cell? ⟨B0, 1, none⟩ = some (.int .i64 0) ∧ w'.frozen? ⟨B0, 0, none⟩ = false ∧ w'.frozen? ⟨B0, 1, none⟩ = false ∧ B0 < w'.heap.size ∧ Below B0 w w') ?_ (fun wc hc => ?_)
  · rw [← hB0]
    exact ⟨(newBoth rfl (Below.refl _ _) 0 _ rfl).1, (newBoth rfl (Below.refl _ _) 1 _ rfl).1, (newBoth rfl (Below.refl _ _) 0 _ rfl).2, (newBoth rfl (Below.refl _ _) 1 _ rfl).2, by rw [World.size_alloc]; omega, (Below.refl _ _).alloc (Nat.le_refl _) _⟩
  obtain ⟨p0, p1, pz0, pz1, hsc, hB⟩ := hc
  go_upto_region 3 with (at_make; refine wpList_make_own _ rfl _ _ 118 rfl (B0 + 1) 23 i0 (.agg #[.int .i64 0, .int .i64 0]) 2 Try.underlying118 hi hz0 hz1 .i64 .i64 (2 * (ρ : Int) + 1) (2 * ρ + 1) rfl rfl (by omega) (by rw [hz2]; omega) (by unfold maxLen; omega) (by omega) ?_; intro w1 hrow hgrow)
  have hbg : Below wc.heap.size wc w1 := (Below.refl _ _).grown hgrow (Nat.le_refl _) (fun k e => by cases e)
  refine nameWorld (fun w' => w'.cell? ⟨B0, 0, none⟩ = some (.int .i64 0) ∧ w'.cell? ⟨B0, 1, none⟩ = some (.int .i64 0) ∧ w'.frozen? ⟨B0, 0, none⟩ = false ∧ w'.frozen? ⟨B0, 1, none⟩ = false ∧ w'.ownsRow (B0 + 1) 23 2 (Value.slice (some ⟨wc.heap.size, 0, none⟩) 0 (2 * ρ + 1)) 0 [] ∧ B0 < w'.heap.size ∧ Below B0 w w') ⟨keepC hbg p0, keepC hbg p1, keepF hbg p0 pz0, keepF hbg p1 pz1, hrow, Nat.lt_of_lt_of_le hsc hbg.size, hB.trans (hbg.mono (by omega))⟩ (fun wd hd => ?_)
  clear hbg hgrow hrow p0 p1 pz0 pz1 hB
  obtain ⟨p0, p1, pz0, pz1, hrow, hsd, hB⟩ := hd
  go_upto_region 4 with (at_builtin; refine wpList_append_lies _ rfl (.tmp 12) (.tmp 14) 118 rfl (B0 + 1) 23 i0 (.agg #[.int .i64 0, .int .i64 0]) 2 16 Try.underlying118 hi hz0 hz1 hz2 rfl (by decide) _ 0 [] rfl (hrow.alloc _) ⟨wd.heap.size, 0, none⟩ 1 1 [.int .i64 0, .int .i64 0] rfl rfl ?n1 ?n2 (by decide) (by unfold maxLen; omega) (by omega) (by rw [World.size_alloc]; omega) _ rfl ?grow)
  first
  | (case n1 => exact fun j u h => World.news_of_block (heap_alloc_new wd _) j u h)
  | skip
  case n2 => exact fun u hu => by simp at hu; rcases hu with rfl | rfl <;> rfl
  case grow =>
    intro g cap w9 hown9 hgrow9 hat hlt9
    have hal := (Below.refl wd.heap.size wd).alloc (Nat.le_refl _) (.cells #[.int .i64 0, .int .i64 0] 23)
    have far : ∀ s i, s < wd.heap.size → (∀ b, (Value.slice (some ⟨wc.heap.size, 0, none⟩) 0 (2 * ρ + 1)).ownBlock = some b → b ≠ s) → w9.cell? ⟨s, i, none⟩ = (wd.alloc _).cell? ⟨s, i, none⟩ := fun s i h1 h2 => hgrow9.cell_far _ (by rw [World.size_alloc]; exact Nat.lt_succ_of_lt h1) (fun e => h2 _ e.symm rfl)
    have farF : ∀ s i, s < wd.heap.size → (∀ b, (Value.slice (some ⟨wc.heap.size, 0, none⟩) 0 (2 * ρ + 1)).ownBlock = some b → b ≠ s) → w9.frozen? ⟨s, i, none⟩ = (wd.alloc _).frozen? ⟨s, i, none⟩ := fun s i h1 h2 => hgrow9.frozen_far _ (by rw [World.size_alloc]; exact Nat.lt_succ_of_lt h1) (fun e => h2 _ e.symm rfl)
    have hB9 : Below B0 w w9 := (hB.alloc (by omega) _).grown hgrow9 (by rw [World.size_alloc]; omega) (fun j e => by have := (hrow.lt _ e).1; omega)
    have n0 : ∀ b, (Value.slice (some ⟨wc.heap.size, 0, none⟩) 0 (2 * ρ + 1)).ownBlock = some b → b ≠ B0 := fun b e => by have := (hrow.lt _ e).1; omega
    have P0 := (far B0 0 hsd n0).trans (keepC hal p0)
    have P1 := (far B0 1 hsd n0).trans (keepC hal p1)
    have Z0 := (farF B0 0 hsd n0).trans (keepF hal p0 pz0)
    have Z1 := (farF B0 1 hsd n0).trans (keepF hal p1 pz1)
    have hs9 : B0 < w9.heap.size := World.block_lt_of_cell? w9 _ P0
    have hown9 : w9.ownsRow (B0 + 1) 23 2 (.slice (some ⟨g, 0, none⟩) 1 cap) (0 + 1) (arX (ρ : Int) (0 + 1)) := hown9
    clear far farF hal hgrow9 hB hrow n0 hat p0 p1 pz0 pz1 hsd hsc
    have e00 : -(ρ : Int) + ((0 : Nat) : Int) = -(ρ : Int) := by omega
    have HC := Lib.hid (fun w => widthOf_any (ρ : Int) (-(ρ : Int)) w (by omega) (by omega) (by omega) (by omega))
    rw [← e00] at HC
    obtain ⟨wl, hwl⟩ : ∃ z, rt (sqW (ρ : Int) (-(ρ : Int) + ((0 : Nat) : Int))) = z := ⟨_, rfl⟩
    obtain ⟨wh, hwh⟩ : ∃ z, rtUp (sqW (ρ : Int) (-(ρ : Int) + ((0 : Nat) : Int))) = z := ⟨_, rfl⟩
    rw [hwl, hwh, e00] at HC
    clear e00
    have HWL := Lib.hid hwl
    have HWH := Lib.hid hwh
    clear hwl hwh
    go_upto_region 5 with (go_at_call 90; (with_reducible refine Calls.mono (HC.out _) ?_); rintro e w1 ⟨rfl, hb1⟩)
    have hbw := belowSeq2 hb1 ((Below.refl _ w1).alloc (Nat.le_refl _) (.cells #[.int .i64 wl, .int .i64 wh] 23))
    obtain ⟨BW, hBW⟩ : ∃ B, w1.heap.size = B := ⟨_, rfl⟩
    have hWB : B0 < BW := by have := hb1.size; omega
    rw [hBW]
    refine nameWorld (fun w' => w'.ownsRow (B0 + 1) 23 2 (Value.slice (some ⟨g, 0, none⟩) 1 cap) (0 + 1) (arX (ρ : Int) (0 + 1)) ∧ (Value.slice (some ⟨g, 0, none⟩) 1 cap).ownBlock ≠ some BW ∧ w'.cell? ⟨B0, 0, none⟩ = some (.int .i64 (arLo (ρ : Int) 0)) ∧ w'.cell? ⟨B0, 1, none⟩ = some (.int .i64 (arHi (ρ : Int) 0)) ∧ w'.frozen? ⟨B0, 0, none⟩ = false ∧ w'.frozen? ⟨B0, 1, none⟩ = false ∧ w'.cell? ⟨BW, 0, none⟩ = some (.int .i64 (rt (sqW (ρ : Int) (-(ρ : Int) + (0 : Nat))))) ∧ w'.cell? ⟨BW, 1, none⟩ = some (.int .i64 (rtUp (sqW (ρ : Int) (-(ρ : Int) + (0 : Nat))))) ∧ w'.frozen? ⟨BW, 0, none⟩ = false ∧ w'.frozen? ⟨BW, 1, none⟩ = false ∧ BW < w'.heap.size ∧ Below B0 w w') ⟨rowBelowZ hown9 hbw, fun e => by have h1 : g = BW := Option.some.inj e; have h2 := (hown9.lt _ rfl).2; have h3 := hb1.size; omega, keepC hbw P0, keepC hbw P1, keepF hbw P0 Z0, keepF hbw P1 Z1, by rw [HWL.out]; exact (newBoth hBW (Below.refl _ _) 0 _ rfl).1, by rw [HWH.out]; exact (newBoth hBW (Below.refl _ _) 1 _ rfl).1, (newBoth hBW (Below.refl _ _) 0 _ rfl).2, (newBoth hBW (Below.refl _ _) 1 _ rfl).2, by rw [World.size_alloc]; omega, hB9.trans (hbw.mono (by omega))⟩ (fun we he => ?_)
    clear hbw hb1 hBW hown9 P0 P1 Z0 Z1 hB9 hs9 HWL HWH HC hlt9
    obtain ⟨hrow, hne, p0, p1, pz0, pz1, q0, q1, qz0, qz1, hsW, hB⟩ := he
    go_wp2_with fail
    go_loopw [6, 4] (fun i v wr => ∃ (k : Nat) (tv : Value), (k ≤ 2 * ρ ∧ i = .int .i64 (1 - (ρ : Int) + (k : Int)) ∧ v = tv) ∧ wr.ownsRow (B0 + 1) 23 2 (tv) (k + 1) (arX (ρ : Int) (k + 1)) ∧ (tv).ownBlock ≠ some BW ∧ wr.cell? ⟨B0, 0, none⟩ = some (.int .i64 (arLo (ρ : Int) k)) ∧ wr.cell? ⟨B0, 1, none⟩ = some (.int .i64 (arHi (ρ : Int) k)) ∧ wr.frozen? ⟨B0, 0, none⟩ = false ∧ wr.frozen? ⟨B0, 1, none⟩ = false ∧ wr.cell? ⟨BW, 0, none⟩ = some (.int .i64 (rt (sqW (ρ : Int) (-(ρ : Int) + (k : Nat))))) ∧ wr.cell? ⟨BW, 1, none⟩ = some (.int .i64 (rtUp (sqW (ρ : Int) (-(ρ : Int) + (k : Nat))))) ∧ wr.frozen? ⟨BW, 0, none⟩ = false ∧ wr.frozen? ⟨BW, 1, none⟩ = false ∧ BW < wr.heap.size ∧ Below B0 w wr)
      (fun i _ _ => (1000 - intOf i).toNat)
    case atStart => exact ⟨0, _, ⟨Nat.zero_le _, by rw [show (1 : Int) - (ρ : Int) + ((0 : Nat) : Int) = 1 - (ρ : Int) by omega], rfl⟩, hrow, hne, p0, p1, pz0, pz1, q0, q1, qz0, qz1, hsW, hB⟩
    case round =>
      clear hrow hne p0 p1 pz0 pz1 q0 q1 qz0 qz1 hsW hB
      obtain ⟨k, tv, ⟨hk, rfl, rfl⟩, hrow, hne, p0, p1, pz0, pz1, q0, q1, qz0, qz1, hsW, hB⟩ := hrel
      by_cases hlt : k < 2 * ρ
      · have e1 : -(ρ : Int) + ((k + 1 : Nat) : Int) = 1 - (ρ : Int) + (k : Int) := by omega
        have HC := Lib.hid (fun w => widthOf_any (ρ : Int) (1 - (ρ : Int) + (k : Int)) w (by omega) (by omega) (by omega) (by omega))
        have hb2 := ar_bd2 (R := (ρ : Int)) (by omega) (by omega) (k + 1) (by omega)
        have HSL : Hid (arLo (ρ : Int) (k + 1) = arLo (ρ : Int) k + min (rt (sqW (ρ : Int) (-(ρ : Int) + ((k : Nat) : Int)))) (rt (sqW (ρ : Int) (-(ρ : Int) + ((k : Nat) : Int) + 1)))) := Lib.hid rfl
        have HSH : Hid (arHi (ρ : Int) (k + 1) = arHi (ρ : Int) k + max (rtUp (sqW (ρ : Int) (-(ρ : Int) + ((k : Nat) : Int)))) (rtUp (sqW (ρ : Int) (-(ρ : Int) + ((k : Nat) : Int) + 1)))) := Lib.hid rfl
        rw [show -(ρ : Int) + ((k : Nat) : Int) + 1 = 1 - (ρ : Int) + (k : Int) by omega] at HSL HSH
        obtain ⟨A, hA⟩ : ∃ z, arLo (ρ : Int) k = z := ⟨_, rfl⟩
        obtain ⟨H, hH⟩ : ∃ z, arHi (ρ : Int) k = z := ⟨_, rfl⟩
        obtain ⟨A2, hA2⟩ : ∃ z, arLo (ρ : Int) (k + 1) = z := ⟨_, rfl⟩
        obtain ⟨H2, hH2⟩ : ∃ z, arHi (ρ : Int) (k + 1) = z := ⟨_, rfl⟩
        obtain ⟨wl, hwl⟩ : ∃ z, rt (sqW (ρ : Int) (-(ρ : Int) + ((k : Nat) : Int))) = z := ⟨_, rfl⟩
        obtain ⟨wh, hwh⟩ : ∃ z, rtUp (sqW (ρ : Int) (-(ρ : Int) + ((k : Nat) : Int))) = z := ⟨_, rfl⟩
        obtain ⟨xl, hxl⟩ : ∃ z, rt (sqW (ρ : Int) (1 - (ρ : Int) + (k : Int))) = z := ⟨_, rfl⟩
        obtain ⟨xh, hxh⟩ : ∃ z, rtUp (sqW (ρ : Int) (1 - (ρ : Int) + (k : Int))) = z := ⟨_, rfl⟩
        rw [hA2, hH2] at hb2
        rw [hA2, hA, hwl, hxl] at HSL
        rw [hH2, hH, hwh, hxh] at HSH
        rw [hA] at p0
        rw [hH] at p1
        rw [hwl] at q0
        rw [hwh] at q1
        rw [hxl, hxh] at HC
        have e2 := HSL.out
        have e3 := HSH.out
        obtain ⟨mi, hmi⟩ : ∃ z, (if xl < wl then xl else wl) = z := ⟨_, rfl⟩
        obtain ⟨ma, hma⟩ : ∃ z, (if wh < xh then xh else wh) = z := ⟨_, rfl⟩
        rw [min_if, hmi] at e2
        rw [max_if, hma] at e3
        have u0 : IntKind.i64.wrap (A + mi) = A2 := by rw [← e2]; exact IntWalk.i64_in _ (by omega)
        have u1 : IntKind.i64.wrap (H + ma) = H2 := by rw [← e3]; exact IntWalk.i64_in _ (by omega)
        have u2 : IntKind.i64.wrap (1 - (ρ : Int) + (k : Int) + 1) = 1 - (ρ : Int) + ((k + 1 : Nat) : Int) := by rw [show 1 - (ρ : Int) + (k : Int) + 1 = 1 - (ρ : Int) + ((k + 1 : Nat) : Int) by omega]; exact IntWalk.i64_in _ (by omega)
        have HX := Lib.hid (And.intro hA2 (And.intro hH2 (And.intro hxl hxh)))
        have HE1 := Lib.hid e1
        have hle : (1 : Int) - (ρ : Int) + (k : Int) ≤ (ρ : Int) := by omega
        clear e1 e2 e3 hb2 hA hH hA2 hH2 hwl hwh hxl hxh
        go_upto_region 9 with (go_at_call 90; (with_reducible refine Calls.mono (HC.out _) ?_); rintro e w1 ⟨rfl, hb1⟩)
        have hbw := belowSeq2 hb1 ((Below.refl _ w1).alloc (Nat.le_refl _) (.cells #[.int .i64 xl, .int .i64 xh] 23))
        obtain ⟨BA, hBA⟩ : ∃ B, w1.heap.size = B := ⟨_, rfl⟩
        have hWA : BW < BA := by have := hb1.size; omega
        have hna : ∀ b, u4.ownBlock = some b → b ≠ BA := fun b e => by have h1 := (hrow.lt _ e).2; have := hb1.size; omega
        rw [hBA]
        refine nameWorld (fun w' => w'.ownsRow (B0 + 1) 23 2 u4 (k + 1) (arX (ρ : Int) (k + 1)) ∧ u4.ownBlock ≠ some BW ∧ w'.cell? ⟨B0, 0, none⟩ = some (.int .i64 A) ∧ w'.cell? ⟨B0, 1, none⟩ = some (.int .i64 H) ∧ w'.frozen? ⟨B0, 0, none⟩ = false ∧ w'.frozen? ⟨B0, 1, none⟩ = false ∧ w'.cell? ⟨BW, 0, none⟩ = some (.int .i64 wl) ∧ w'.cell? ⟨BW, 1, none⟩ = some (.int .i64 wh) ∧ w'.frozen? ⟨BW, 0, none⟩ = false ∧ w'.frozen? ⟨BW, 1, none⟩ = false ∧ BW < w'.heap.size ∧ Below B0 w w' ∧ w'.cell? ⟨BA, 0, none⟩ = some (.int .i64 xl) ∧ w'.cell? ⟨BA, 1, none⟩ = some (.int .i64 xh) ∧ BA < w'.heap.size) ⟨rowBelowZ hrow hbw, hne, keepC hbw p0, keepC hbw p1, keepF hbw p0 pz0, keepF hbw p1 pz1, keepC hbw q0, keepC hbw q1, keepF hbw q0 qz0, keepF hbw q1 qz1, Nat.lt_of_lt_of_le hsW hbw.size, hB.trans (hbw.mono (by omega)), (newBoth hBA (Below.refl _ _) 0 _ rfl).1, (newBoth hBA (Below.refl _ _) 1 _ rfl).1, by rw [World.size_alloc]; omega⟩ (fun wd hd => ?_)
        clear hbw hb1 hBA HC hrow hne p0 p1 pz0 pz1 q0 q1 qz0 qz1 hsW hB
        obtain ⟨hrow, hne, p0, p1, pz0, pz1, q0, q1, qz0, qz1, hsW, hB, a0, a1, hsA⟩ := hd
        have hsB : B0 < wd.heap.size := by omega
        go_upto_region 11 with fail
        obtain ⟨c0, c1⟩ := set2 p0 p1 (.int .i64 A2) (.int .i64 H2)
        have oth : ∀ s i, s ≠ B0 → ((wd.setCell ⟨B0, 0, none⟩ (.int .i64 A2)).setCell ⟨B0, 1, none⟩ (.int .i64 H2)).cell? ⟨s, i, none⟩ = wd.cell? ⟨s, i, none⟩ := fun s i h => (World.cell?_setCell_other _ _ _ _ (by intro e; injection e with e1 e2; exact h e1.symm)).trans (World.cell?_setCell_other _ _ _ _ (by intro e; injection e with e1 e2; exact h e1.symm))
        have fz : ∀ p, ((wd.setCell ⟨B0, 0, none⟩ (.int .i64 A2)).setCell ⟨B0, 1, none⟩ (.int .i64 H2)).frozen? p = wd.frozen? p := fun p => by rw [World.frozen?_setCell, World.frozen?_setCell]
        have hB2 : Below B0 w ((wd.setCell ⟨B0, 0, none⟩ (.int .i64 A2)).setCell ⟨B0, 1, none⟩ (.int .i64 H2)) := (hB.setCell (Nat.le_refl _) _).setCell (Nat.le_refl _) _
        have hr2 := ownsRow_setCell_below (ownsRow_setCell_below hrow (show B0 < B0 + 1 by omega) (a := ⟨B0, 0, none⟩) (.int .i64 A2)) (show B0 < B0 + 1 by omega) (a := ⟨B0, 1, none⟩) (.int .i64 H2)
        refine nameWorld (fun w' => w'.ownsRow (B0 + 1) 23 2 u4 (k + 1) (arX (ρ : Int) (k + 1)) ∧ u4.ownBlock ≠ some BW ∧ w'.cell? ⟨B0, 0, none⟩ = some (.int .i64 A2) ∧ w'.cell? ⟨B0, 1, none⟩ = some (.int .i64 H2) ∧ w'.frozen? ⟨B0, 0, none⟩ = false ∧ w'.frozen? ⟨B0, 1, none⟩ = false ∧ w'.cell? ⟨BW, 0, none⟩ = some (.int .i64 wl) ∧ w'.cell? ⟨BW, 1, none⟩ = some (.int .i64 wh) ∧ w'.frozen? ⟨BW, 0, none⟩ = false ∧ w'.frozen? ⟨BW, 1, none⟩ = false ∧ BW < w'.heap.size ∧ Below B0 w w' ∧ w'.cell? ⟨BA, 0, none⟩ = some (.int .i64 xl) ∧ w'.cell? ⟨BA, 1, none⟩ = some (.int .i64 xh) ∧ BA < w'.heap.size) ⟨hr2, hne, c0, c1, (fz _).trans pz0, (fz _).trans pz1, (oth _ _ (by omega)).trans q0, (oth _ _ (by omega)).trans q1, (fz _).trans qz0, (fz _).trans qz1, by rw [World.size_setCell, World.size_setCell]; exact hsW, hB2, (oth _ _ (by omega)).trans a0, (oth _ _ (by omega)).trans a1, by rw [World.size_setCell, World.size_setCell]; exact hsA⟩ (fun we he => ?_)
        clear c0 c1 oth fz hB2 hr2 hsB a0 a1 hsA hrow hne p0 p1 pz0 pz1 q0 q1 qz0 qz1 hsW hB
        obtain ⟨hrow, hne, p0, p1, pz0, pz1, q0, q1, qz0, qz1, hsW, hB, a0, a1, hsA⟩ := he
        have hsB : B0 < we.heap.size := by omega
        go_upto_region 12 with (at_builtin; refine wpList_append_lies _ rfl (.tmp 48) (.tmp 50) 118 rfl (B0 + 1) 23 i0 (.agg #[.int .i64 0, .int .i64 0]) 2 16 Try.underlying118 hi hz0 hz1 hz2 rfl (by decide) _ (k + 1) (arX (ρ : Int) (k + 1)) rfl (hrow.alloc _) ⟨we.heap.size, 0, none⟩ 1 1 [.int .i64 A2, .int .i64 H2] rfl rfl ?n1 ?n2 (by decide) (by unfold maxLen; omega) (by omega) (by rw [World.size_alloc]; omega) _ rfl ?grow)
        first
        | (case n1 => exact fun j u h => World.news_of_block (heap_alloc_new we _) j u h)
        | skip
        case n2 => exact fun u hu => by simp at hu; rcases hu with rfl | rfl <;> rfl
        case grow =>
          intro g cap w9 hown9 hgrow9 hat hlt9
          have hal := (Below.refl we.heap.size we).alloc (Nat.le_refl _) (.cells #[.int .i64 A2, .int .i64 H2] 23)
          have far : ∀ s i, s < we.heap.size → (∀ b, u4.ownBlock = some b → b ≠ s) → w9.cell? ⟨s, i, none⟩ = (we.alloc _).cell? ⟨s, i, none⟩ := fun s i h1 h2 => hgrow9.cell_far _ (by rw [World.size_alloc]; exact Nat.lt_succ_of_lt h1) (fun e => h2 _ e.symm rfl)
          have farF : ∀ s i, s < we.heap.size → (∀ b, u4.ownBlock = some b → b ≠ s) → w9.frozen? ⟨s, i, none⟩ = (we.alloc _).frozen? ⟨s, i, none⟩ := fun s i h1 h2 => hgrow9.frozen_far _ (by rw [World.size_alloc]; exact Nat.lt_succ_of_lt h1) (fun e => h2 _ e.symm rfl)
          have hB9 : Below B0 w w9 := (hB.alloc (by have := hB.size; omega) _).grown hgrow9 (by rw [World.size_alloc]; omega) (fun j e => by have := (hrow.lt _ e).1; omega)
          have n0 : ∀ b, u4.ownBlock = some b → b ≠ B0 := fun b e => by have := (hrow.lt _ e).1; omega
          have n1 : ∀ b, u4.ownBlock = some b → b ≠ BW := fun b e h => hne (by rw [e, h])
          have P0 := (far B0 0 (by omega) n0).trans (keepC hal p0)
          have P1 := (far B0 1 (by omega) n0).trans (keepC hal p1)
          have Q0 := (far BW 0 (by omega) n1).trans (keepC hal q0)
          have Q1 := (far BW 1 (by omega) n1).trans (keepC hal q1)
          have X0 := (far BA 0 (by omega) hna).trans (keepC hal a0)
          have X1 := (far BA 1 (by omega) hna).trans (keepC hal a1)
          have PZ0 := (farF B0 0 (by omega) n0).trans (keepF hal p0 pz0)
          have PZ1 := (farF B0 1 (by omega) n0).trans (keepF hal p1 pz1)
          have QZ0 := (farF BW 0 (by omega) n1).trans (keepF hal q0 qz0)
          have QZ1 := (farF BW 1 (by omega) n1).trans (keepF hal q1 qz1)
          have hgW : (Value.slice (some ⟨g, 0, none⟩) (k + 1 + 1) cap).ownBlock ≠ some BW := fun e => by
            have h1 : g = BW := Option.some.inj e
            rcases hat with h2 | h2
            · exact n1 _ h2 h1
            · (try rw [World.size_alloc] at h2); omega
          have hs9 : BA < w9.heap.size := World.block_lt_of_cell? w9 _ X0
          have hown9 : w9.ownsRow (B0 + 1) 23 2 (.slice (some ⟨g, 0, none⟩) (k + 1 + 1) cap) (k + 1 + 1) (arX (ρ : Int) (k + 1 + 1)) := by rw [arX_succ (ρ : Int) (k + 1), HX.out.1, HX.out.2.1]; exact hown9
          clear far farF hal hgrow9 hat hlt9 n0 n1 hna hB hrow hne hsA a0 a1 p0 p1 pz0 pz1 q0 q1 qz0 qz1 hsW hsB
          go_wp2_with fail
          go_roundw
          case rel =>
            obtain ⟨c0, c1⟩ := set2 Q0 Q1 (.int .i64 xl) (.int .i64 xh)
            have o0 := HX.out
            refine ⟨k + 1, _, ⟨by omega, rfl, rfl⟩, ?_, hgW, ?_, ?_, ?_, ?_, ?_, ?_, ?_, ?_, ?_, ?_⟩
            · exact ownsRow_setCell_other (ownsRow_setCell_other hown9 (a := ⟨BW, 0, none⟩) hgW _) (a := ⟨BW, 1, none⟩) hgW _
            · rw [o0.1]; exact (World.cell?_setCell_other _ _ _ _ (by intro e; injection e with e1 e2; omega)).trans ((World.cell?_setCell_other _ _ _ _ (by intro e; injection e with e1 e2; omega)).trans P0)
            · rw [o0.2.1]; exact (World.cell?_setCell_other _ _ _ _ (by intro e; injection e with e1 e2; omega)).trans ((World.cell?_setCell_other _ _ _ _ (by intro e; injection e with e1 e2; omega)).trans P1)
            · rw [World.frozen?_setCell, World.frozen?_setCell]; exact PZ0
            · rw [World.frozen?_setCell, World.frozen?_setCell]; exact PZ1
            · rw [HE1.out, o0.2.2.1]; exact c0
            · rw [HE1.out, o0.2.2.2]; exact c1
            · rw [World.frozen?_setCell, World.frozen?_setCell]; exact QZ0
            · rw [World.frozen?_setCell, World.frozen?_setCell]; exact QZ1
            · rw [World.size_setCell, World.size_setCell]; omega
            · exact (hB9.setCell (by show B0 ≤ BW; omega) _).setCell (by show B0 ≤ BW; omega) _
          case measure => simp [intOf]; omega
      · have hk2 : k = 2 * ρ := by omega
        have hgt : ¬ ((1 : Int) - (ρ : Int) + (k : Int) ≤ (ρ : Int)) := by omega
        obtain ⟨g, cap, rfl, hgB, -⟩ := hrow.form (by omega)
        have HK := Lib.hid hk2
        have hcell : Hid (∀ j, j ≤ 2 * ρ → wr.cell? ⟨g, 0 + j * 2, none⟩ = some (.int .i64 (arLo (ρ : Int) j)) ∧ wr.cell? ⟨g, 0 + j * 2 + 1, none⟩ = some (.int .i64 (arHi (ρ : Int) j))) := Lib.hid fun j hj => by
          obtain ⟨a1, a2⟩ := arX_at (ρ : Int) (k + 1) j (by omega)
          rw [Nat.zero_add]
          exact ⟨(hrow.cellAt _ (by omega)).trans a1, (hrow.cellAt _ (by omega)).trans a2⟩
        have HGB := Lib.hid (show B0 ≤ g by omega)
        clear hk2 hk hlt hgB
        go_wp2_with fail
        (with_reducible refine bodyPost_ret (v := .slice (some ⟨g, 0, none⟩) (k + 1) cap) ?_ rfl ?_)
        · simp [results, Try.results69, go_sem]
        · exact ⟨⟨g, ⟨cap, by rw [HK.out]⟩, HGB.out, fun j hj => by have h := hcell.out j hj; rw [Nat.zero_add] at h; exact h⟩, hB⟩
theorem areasOf_any (ρ : Nat) (w : World) (h10 : 10 ≤ ρ) (h8 : ρ ≤ 800) : Calls Try.prog 69 #[.int .i64 (ρ : Int)] w fun e w' => (∃ g cap, e = .returned (.slice (some ⟨g, 0, none⟩) (2 * ρ + 1) cap) ∧ ∀ j, j ≤ 2 * ρ → w'.cell? ⟨g, 0 + j * 2, none⟩ = some (.int .i64 (arLo (ρ : Int) j)) ∧ w'.cell? ⟨g, 0 + j * 2 + 1, none⟩ = some (.int .i64 (arHi (ρ : Int) j))) ∧ Below w.heap.size w w' :=
  (areasOf_new ρ w h10 h8).mono fun _ _ ⟨⟨g, cap, h1, _, h2⟩, h3⟩ => ⟨⟨g, cap, h1, h2⟩, h3⟩
end Go.Proofs.Ytlmnhlmgbcpclaa
