/- flor's own measureError, betweenError, Explains. -/
import Derived.Test.YtbijhcoloajjaaaF6
import Derived.Test.YtbijhcoloajjaaaF12
import Derived.Test.YtbijhcoloajjaaaF8
import Derived.Test.YtbijhcoloajjaaaE3
namespace Go.Proofs.Ytbijhcoloajjaaa
open Go.RowKit

theorem keepS7_0 {w W w1 : World} {p0 p1 p2 p3 p4 p5 p6 : Addr} {v0 v1 v2 v3 v4 v5 v6 : Value} (hb : Below W.heap.size W w1) (h : W.cell? p0 = some v0 ∧ W.cell? p1 = some v1 ∧ W.cell? p2 = some v2 ∧ W.cell? p3 = some v3 ∧ W.cell? p4 = some v4 ∧ W.cell? p5 = some v5 ∧ W.cell? p6 = some v6 ∧ Below w.heap.size w W) : w1.cell? p0 = some v0 ∧ w1.cell? p1 = some v1 ∧ w1.cell? p2 = some v2 ∧ w1.cell? p3 = some v3 ∧ w1.cell? p4 = some v4 ∧ w1.cell? p5 = some v5 ∧ w1.cell? p6 = some v6 ∧ Below w.heap.size w w1 := by
  obtain ⟨h0, h1, h2, h3, h4, h5, h6, hB⟩ := h
  exact ⟨keepC hb h0, keepC hb h1, keepC hb h2, keepC hb h3, keepC hb h4, keepC hb h5, keepC hb h6, belowSeq hb hB⟩
theorem allocS7_0 {w W : World} {o : Obj} {p0 p1 p2 p3 p4 p5 p6 : Addr} {v0 v1 v2 v3 v4 v5 v6 : Value} (h : W.cell? p0 = some v0 ∧ W.cell? p1 = some v1 ∧ W.cell? p2 = some v2 ∧ W.cell? p3 = some v3 ∧ W.cell? p4 = some v4 ∧ W.cell? p5 = some v5 ∧ W.cell? p6 = some v6 ∧ Below w.heap.size w W) : (W.alloc o).cell? p0 = some v0 ∧ (W.alloc o).cell? p1 = some v1 ∧ (W.alloc o).cell? p2 = some v2 ∧ (W.alloc o).cell? p3 = some v3 ∧ (W.alloc o).cell? p4 = some v4 ∧ (W.alloc o).cell? p5 = some v5 ∧ (W.alloc o).cell? p6 = some v6 ∧ Below w.heap.size w (W.alloc o) := keepS7_0 ((Below.refl _ _).alloc (Nat.le_refl _) o) h
theorem drewS7_0 {w W : World} {p0 p1 p2 p3 p4 p5 p6 : Addr} {v0 v1 v2 v3 v4 v5 v6 : Value} (h : W.cell? p0 = some v0 ∧ W.cell? p1 = some v1 ∧ W.cell? p2 = some v2 ∧ W.cell? p3 = some v3 ∧ W.cell? p4 = some v4 ∧ W.cell? p5 = some v5 ∧ W.cell? p6 = some v6 ∧ Below w.heap.size w W) : W.drew.cell? p0 = some v0 ∧ W.drew.cell? p1 = some v1 ∧ W.drew.cell? p2 = some v2 ∧ W.drew.cell? p3 = some v3 ∧ W.drew.cell? p4 = some v4 ∧ W.drew.cell? p5 = some v5 ∧ W.drew.cell? p6 = some v6 ∧ Below w.heap.size w W.drew := keepS7_0 ((Below.refl _ _).drew) h
theorem keepS2_0 {w W w1 : World} {p0 p1 : Addr} {v0 v1 : Value} (hb : Below W.heap.size W w1) (h : W.cell? p0 = some v0 ∧ W.cell? p1 = some v1 ∧ Below w.heap.size w W) : w1.cell? p0 = some v0 ∧ w1.cell? p1 = some v1 ∧ Below w.heap.size w w1 := by
  obtain ⟨h0, h1, hB⟩ := h
  exact ⟨keepC hb h0, keepC hb h1, belowSeq hb hB⟩
theorem allocS2_0 {w W : World} {o : Obj} {p0 p1 : Addr} {v0 v1 : Value} (h : W.cell? p0 = some v0 ∧ W.cell? p1 = some v1 ∧ Below w.heap.size w W) : (W.alloc o).cell? p0 = some v0 ∧ (W.alloc o).cell? p1 = some v1 ∧ Below w.heap.size w (W.alloc o) := keepS2_0 ((Below.refl _ _).alloc (Nat.le_refl _) o) h
theorem drewS2_0 {w W : World} {p0 p1 : Addr} {v0 v1 : Value} (h : W.cell? p0 = some v0 ∧ W.cell? p1 = some v1 ∧ Below w.heap.size w W) : W.drew.cell? p0 = some v0 ∧ W.drew.cell? p1 = some v1 ∧ Below w.heap.size w W.drew := keepS2_0 ((Below.refl _ _).drew) h
theorem keepS18_0 {w W w1 : World} {p0 p1 p2 p3 p4 p5 p6 p7 p8 p9 p10 p11 p12 p13 p14 p15 p16 p17 : Addr} {v0 v1 v2 v3 v4 v5 v6 v7 v8 v9 v10 v11 v12 v13 v14 v15 v16 v17 : Value} (hb : Below W.heap.size W w1) (h : W.cell? p0 = some v0 ∧ W.cell? p1 = some v1 ∧ W.cell? p2 = some v2 ∧ W.cell? p3 = some v3 ∧ W.cell? p4 = some v4 ∧ W.cell? p5 = some v5 ∧ W.cell? p6 = some v6 ∧ W.cell? p7 = some v7 ∧ W.cell? p8 = some v8 ∧ W.cell? p9 = some v9 ∧ W.cell? p10 = some v10 ∧ W.cell? p11 = some v11 ∧ W.cell? p12 = some v12 ∧ W.cell? p13 = some v13 ∧ W.cell? p14 = some v14 ∧ W.cell? p15 = some v15 ∧ W.cell? p16 = some v16 ∧ W.cell? p17 = some v17 ∧ Below w.heap.size w W) : w1.cell? p0 = some v0 ∧ w1.cell? p1 = some v1 ∧ w1.cell? p2 = some v2 ∧ w1.cell? p3 = some v3 ∧ w1.cell? p4 = some v4 ∧ w1.cell? p5 = some v5 ∧ w1.cell? p6 = some v6 ∧ w1.cell? p7 = some v7 ∧ w1.cell? p8 = some v8 ∧ w1.cell? p9 = some v9 ∧ w1.cell? p10 = some v10 ∧ w1.cell? p11 = some v11 ∧ w1.cell? p12 = some v12 ∧ w1.cell? p13 = some v13 ∧ w1.cell? p14 = some v14 ∧ w1.cell? p15 = some v15 ∧ w1.cell? p16 = some v16 ∧ w1.cell? p17 = some v17 ∧ Below w.heap.size w w1 := by
  obtain ⟨h0, h1, h2, h3, h4, h5, h6, h7, h8, h9, h10, h11, h12, h13, h14, h15, h16, h17, hB⟩ := h
  exact ⟨keepC hb h0, keepC hb h1, keepC hb h2, keepC hb h3, keepC hb h4, keepC hb h5, keepC hb h6, keepC hb h7, keepC hb h8, keepC hb h9, keepC hb h10, keepC hb h11, keepC hb h12, keepC hb h13, keepC hb h14, keepC hb h15, keepC hb h16, keepC hb h17, belowSeq hb hB⟩
theorem allocS18_0 {w W : World} {o : Obj} {p0 p1 p2 p3 p4 p5 p6 p7 p8 p9 p10 p11 p12 p13 p14 p15 p16 p17 : Addr} {v0 v1 v2 v3 v4 v5 v6 v7 v8 v9 v10 v11 v12 v13 v14 v15 v16 v17 : Value} (h : W.cell? p0 = some v0 ∧ W.cell? p1 = some v1 ∧ W.cell? p2 = some v2 ∧ W.cell? p3 = some v3 ∧ W.cell? p4 = some v4 ∧ W.cell? p5 = some v5 ∧ W.cell? p6 = some v6 ∧ W.cell? p7 = some v7 ∧ W.cell? p8 = some v8 ∧ W.cell? p9 = some v9 ∧ W.cell? p10 = some v10 ∧ W.cell? p11 = some v11 ∧ W.cell? p12 = some v12 ∧ W.cell? p13 = some v13 ∧ W.cell? p14 = some v14 ∧ W.cell? p15 = some v15 ∧ W.cell? p16 = some v16 ∧ W.cell? p17 = some v17 ∧ Below w.heap.size w W) : (W.alloc o).cell? p0 = some v0 ∧ (W.alloc o).cell? p1 = some v1 ∧ (W.alloc o).cell? p2 = some v2 ∧ (W.alloc o).cell? p3 = some v3 ∧ (W.alloc o).cell? p4 = some v4 ∧ (W.alloc o).cell? p5 = some v5 ∧ (W.alloc o).cell? p6 = some v6 ∧ (W.alloc o).cell? p7 = some v7 ∧ (W.alloc o).cell? p8 = some v8 ∧ (W.alloc o).cell? p9 = some v9 ∧ (W.alloc o).cell? p10 = some v10 ∧ (W.alloc o).cell? p11 = some v11 ∧ (W.alloc o).cell? p12 = some v12 ∧ (W.alloc o).cell? p13 = some v13 ∧ (W.alloc o).cell? p14 = some v14 ∧ (W.alloc o).cell? p15 = some v15 ∧ (W.alloc o).cell? p16 = some v16 ∧ (W.alloc o).cell? p17 = some v17 ∧ Below w.heap.size w (W.alloc o) := keepS18_0 ((Below.refl _ _).alloc (Nat.le_refl _) o) h
theorem drewS18_0 {w W : World} {p0 p1 p2 p3 p4 p5 p6 p7 p8 p9 p10 p11 p12 p13 p14 p15 p16 p17 : Addr} {v0 v1 v2 v3 v4 v5 v6 v7 v8 v9 v10 v11 v12 v13 v14 v15 v16 v17 : Value} (h : W.cell? p0 = some v0 ∧ W.cell? p1 = some v1 ∧ W.cell? p2 = some v2 ∧ W.cell? p3 = some v3 ∧ W.cell? p4 = some v4 ∧ W.cell? p5 = some v5 ∧ W.cell? p6 = some v6 ∧ W.cell? p7 = some v7 ∧ W.cell? p8 = some v8 ∧ W.cell? p9 = some v9 ∧ W.cell? p10 = some v10 ∧ W.cell? p11 = some v11 ∧ W.cell? p12 = some v12 ∧ W.cell? p13 = some v13 ∧ W.cell? p14 = some v14 ∧ W.cell? p15 = some v15 ∧ W.cell? p16 = some v16 ∧ W.cell? p17 = some v17 ∧ Below w.heap.size w W) : W.drew.cell? p0 = some v0 ∧ W.drew.cell? p1 = some v1 ∧ W.drew.cell? p2 = some v2 ∧ W.drew.cell? p3 = some v3 ∧ W.drew.cell? p4 = some v4 ∧ W.drew.cell? p5 = some v5 ∧ W.drew.cell? p6 = some v6 ∧ W.drew.cell? p7 = some v7 ∧ W.drew.cell? p8 = some v8 ∧ W.drew.cell? p9 = some v9 ∧ W.drew.cell? p10 = some v10 ∧ W.drew.cell? p11 = some v11 ∧ W.drew.cell? p12 = some v12 ∧ W.drew.cell? p13 = some v13 ∧ W.drew.cell? p14 = some v14 ∧ W.drew.cell? p15 = some v15 ∧ W.drew.cell? p16 = some v16 ∧ W.drew.cell? p17 = some v17 ∧ Below w.heap.size w W.drew := keepS18_0 ((Below.refl _ _).drew) h
def measE (d v0 v1 s0 s1 c0 c1 : Int) : Int := firstE (numE d 0 100000) (wineE v0 v1 s0 s1 c0 c1) 0
def betE (da db : Int) : Int := firstE (unlE (decide (da < db)) 9) (unlE (decide (IntKind.i64.wrap (db - da) ≤ 365)) 8) 0
theorem newCell1 {W : World} {o : Obj} {cs : Array Value} {t : TypeId} (i : Nat) (v : Value) (hv : cs[i]? = some v) : ((W.alloc o).alloc (.cells cs t)).cell? ⟨W.heap.size + 1, i, none⟩ = some v := by
  have := newCell (W := W.alloc o) (cs := cs) (t := t) i v hv
  rwa [World.size_alloc] at this
def ans3 (e0 e1 e2 e3 e4 e5 u0 u1 r0 r1 q0 q1 : Int) : Int := if mn e1 u1 < mx e0 u0 then 0 else if mn e3 r1 < mx e2 r0 then 0 else if mn e5 q1 < mx e4 q0 then 0 else if inR e4 e5 q0 q1 then (if inR e2 e3 r0 r1 then (if inR e0 e1 u0 u1 then 2 else 1) else 1) else 1
def f12 (a b c : Nat → Int) : Nat → Nat → Int
  | 0 => a | 1 => b | _ => c
def f4 (a0 a1 a2 a3 : Int) : Nat → Int
  | 0 => a0 | 1 => a1 | 2 => a2 | _ => a3
theorem answer3_any (e0 e1 u0 u1 e2 e3 r0 r1 e4 e5 q0 q1 : Int) (b : Nat) (w : World) (h0 : w.cell? ⟨b, 0, none⟩ = some (.int .i64 e0)) (h1 : w.cell? ⟨b, 1, none⟩ = some (.int .i64 e1)) (h2 : w.cell? ⟨b, 2, none⟩ = some (.int .i64 u0)) (h3 : w.cell? ⟨b, 3, none⟩ = some (.int .i64 u1)) (h4 : w.cell? ⟨b, 4, none⟩ = some (.int .i64 e2)) (h5 : w.cell? ⟨b, 5, none⟩ = some (.int .i64 e3)) (h6 : w.cell? ⟨b, 6, none⟩ = some (.int .i64 r0)) (h7 : w.cell? ⟨b, 7, none⟩ = some (.int .i64 r1)) (h8 : w.cell? ⟨b, 8, none⟩ = some (.int .i64 e4)) (h9 : w.cell? ⟨b, 9, none⟩ = some (.int .i64 e5)) (h10 : w.cell? ⟨b, 10, none⟩ = some (.int .i64 q0)) (h11 : w.cell? ⟨b, 11, none⟩ = some (.int .i64 q1)) :
    Calls Try.prog 55 #[.slice (some ⟨b, 0, none⟩) 3 3] w fun e w' => e = .returned (.int .i64 (ans3 e0 e1 e2 e3 e4 e5 u0 u1 r0 r1 q0 q1)) ∧ Below w.heap.size w w' := by
  have := answer_list 3 (f12 (f4 e0 e1 u0 u1) (f4 e2 e3 r0 r1) (f4 e4 e5 q0 q1)) b 0 w (by omega) (by
    intro j i hj hi
    match j, i, hj, hi with
    | 0, 0, _, _ => exact h0
    | 0, 1, _, _ => exact h1
    | 0, 2, _, _ => exact h2
    | 0, 3, _, _ => exact h3
    | 1, 0, _, _ => exact h4
    | 1, 1, _, _ => exact h5
    | 1, 2, _, _ => exact h6
    | 1, 3, _, _ => exact h7
    | 2, 0, _, _ => exact h8
    | 2, 1, _, _ => exact h9
    | 2, 2, _, _ => exact h10
    | 2, 3, _, _ => exact h11)
  exact this
end Go.Proofs.Ytbijhcoloajjaaa
