/- FirstShort of a right system and one draw; what is known of it and of GreatestNow. -/
import Derived.Test.YtdejmleboflopaaGreatPE
set_option linter.unusedVariables false
set_option linter.unusedSimpArgs false
namespace Go.Proofs.YtdejmleboflopaaGreat
open Go.RowKit
namespace Sy
open Go.RowKit

def factsX (N : Nat) (l : List Fact) : List Fact := sysF N ++ ([(2, iP 0, hX, true), (2, hX, iP 20000, true)] ++ l)
def ansF (a c : Int) : Value := .tuple #[.agg #[iP 0, iP a], iP c]
section
variable (hole : Nat → Value)
theorem fsGood1 (ok) : fstO (evDS (pgS hole (factsX 1 (goodF 1 hX)) ok) (spP 1) 2000 60 (.fn 11) [sysW 1, begW 1, drW] (hpF 1) 3) = some (ansF 0 12) := by kernel_rfl
theorem fsFull1_0 (ok) : fstO (evDS (pgS hole (factsX 1 (fullAt hX 0)) ok) (spP 1) 2000 60 (.fn 11) [sysW 1, begW 1, drW] (hpF 1) 3) = some (ansF 0 16) := by kernel_rfl
theorem fsShort1_0 (ok) : fstO (evDS (pgS hole (factsX 1 (shortAt 1 hX 0)) ok) (spP 1) 2000 60 (.fn 11) [sysW 1, begW 1, drW] (hpF 1) 3) = some (ansF 0 0) := by kernel_rfl
theorem fsGood2 (ok) : fstO (evDS (pgS hole (factsX 2 (goodF 2 hX)) ok) (spP 2) 2000 60 (.fn 11) [sysW 2, begW 2, drW] (hpF 2) 3) = some (ansF 0 12) := by kernel_rfl
theorem fsFull2_0 (ok) : fstO (evDS (pgS hole (factsX 2 (fullAt hX 0)) ok) (spP 2) 2000 60 (.fn 11) [sysW 2, begW 2, drW] (hpF 2) 3) = some (ansF 0 16) := by kernel_rfl
theorem fsShort2_0 (ok) : fstO (evDS (pgS hole (factsX 2 (shortAt 2 hX 0)) ok) (spP 2) 2000 60 (.fn 11) [sysW 2, begW 2, drW] (hpF 2) 3) = some (ansF 0 0) := by kernel_rfl
theorem fsFull2_1 (ok) : fstO (evDS (pgS hole (factsX 2 (fullAt hX 1)) ok) (spP 2) 2000 60 (.fn 11) [sysW 2, begW 2, drW] (hpF 2) 3) = some (ansF 0 16) := by kernel_rfl
theorem fsShort2_1 (ok) : fstO (evDS (pgS hole (factsX 2 (shortAt 2 hX 1)) ok) (spP 2) 2000 60 (.fn 11) [sysW 2, begW 2, drW] (hpF 2) 3) = some (ansF 1 0) := by kernel_rfl
theorem fsGood3 (ok) : fstO (evDS (pgS hole (factsX 3 (goodF 3 hX)) ok) (spP 3) 2000 60 (.fn 11) [sysW 3, begW 3, drW] (hpF 3) 3) = some (ansF 0 12) := by kernel_rfl
theorem fsFull3_0 (ok) : fstO (evDS (pgS hole (factsX 3 (fullAt hX 0)) ok) (spP 3) 2000 60 (.fn 11) [sysW 3, begW 3, drW] (hpF 3) 3) = some (ansF 0 16) := by kernel_rfl
theorem fsShort3_0 (ok) : fstO (evDS (pgS hole (factsX 3 (shortAt 3 hX 0)) ok) (spP 3) 2000 60 (.fn 11) [sysW 3, begW 3, drW] (hpF 3) 3) = some (ansF 0 0) := by kernel_rfl
theorem fsFull3_1 (ok) : fstO (evDS (pgS hole (factsX 3 (fullAt hX 1)) ok) (spP 3) 2000 60 (.fn 11) [sysW 3, begW 3, drW] (hpF 3) 3) = some (ansF 0 16) := by kernel_rfl
theorem fsShort3_1 (ok) : fstO (evDS (pgS hole (factsX 3 (shortAt 3 hX 1)) ok) (spP 3) 2000 60 (.fn 11) [sysW 3, begW 3, drW] (hpF 3) 3) = some (ansF 1 0) := by kernel_rfl
theorem fsFull3_2 (ok) : fstO (evDS (pgS hole (factsX 3 (fullAt hX 2)) ok) (spP 3) 2000 60 (.fn 11) [sysW 3, begW 3, drW] (hpF 3) 3) = some (ansF 0 16) := by kernel_rfl
theorem fsShort3_2 (ok) : fstO (evDS (pgS hole (factsX 3 (shortAt 3 hX 2)) ok) (spP 3) 2000 60 (.fn 11) [sysW 3, begW 3, drW] (hpF 3) 3) = some (ansF 2 0) := by kernel_rfl
theorem fsGood4 (ok) : fstO (evDS (pgS hole (factsX 4 (goodF 4 hX)) ok) (spP 4) 2000 60 (.fn 11) [sysW 4, begW 4, drW] (hpF 4) 3) = some (ansF 0 12) := by kernel_rfl
theorem fsFull4_0 (ok) : fstO (evDS (pgS hole (factsX 4 (fullAt hX 0)) ok) (spP 4) 2000 60 (.fn 11) [sysW 4, begW 4, drW] (hpF 4) 3) = some (ansF 0 16) := by kernel_rfl
theorem fsShort4_0 (ok) : fstO (evDS (pgS hole (factsX 4 (shortAt 4 hX 0)) ok) (spP 4) 2000 60 (.fn 11) [sysW 4, begW 4, drW] (hpF 4) 3) = some (ansF 0 0) := by kernel_rfl
theorem fsFull4_1 (ok) : fstO (evDS (pgS hole (factsX 4 (fullAt hX 1)) ok) (spP 4) 2000 60 (.fn 11) [sysW 4, begW 4, drW] (hpF 4) 3) = some (ansF 0 16) := by kernel_rfl
theorem fsShort4_1 (ok) : fstO (evDS (pgS hole (factsX 4 (shortAt 4 hX 1)) ok) (spP 4) 2000 60 (.fn 11) [sysW 4, begW 4, drW] (hpF 4) 3) = some (ansF 1 0) := by kernel_rfl
theorem fsFull4_2 (ok) : fstO (evDS (pgS hole (factsX 4 (fullAt hX 2)) ok) (spP 4) 2000 60 (.fn 11) [sysW 4, begW 4, drW] (hpF 4) 3) = some (ansF 0 16) := by kernel_rfl
theorem fsShort4_2 (ok) : fstO (evDS (pgS hole (factsX 4 (shortAt 4 hX 2)) ok) (spP 4) 2000 60 (.fn 11) [sysW 4, begW 4, drW] (hpF 4) 3) = some (ansF 2 0) := by kernel_rfl
theorem fsFull4_3 (ok) : fstO (evDS (pgS hole (factsX 4 (fullAt hX 3)) ok) (spP 4) 2000 60 (.fn 11) [sysW 4, begW 4, drW] (hpF 4) 3) = some (ansF 0 16) := by kernel_rfl
theorem fsShort4_3 (ok) : fstO (evDS (pgS hole (factsX 4 (shortAt 4 hX 3)) ok) (spP 4) 2000 60 (.fn 11) [sysW 4, begW 4, drW] (hpF 4) 3) = some (ansF 3 0) := by kernel_rfl
variable {N i : Nat} (h : 1 ≤ N ∧ N ≤ 4)
include h
theorem fsGoodA (ok) : fstO (evDS (pgS hole (factsX N (goodF N hX)) ok) (spP N) 2000 60 (.fn 11) [sysW N, begW N, drW] (hpF N) 3) = some (ansF 0 12) := by
  obtain rfl | rfl | rfl | rfl : N = 1 ∨ N = 2 ∨ N = 3 ∨ N = 4 := by omega
  · exact fsGood1 hole ok
  · exact fsGood2 hole ok
  · exact fsGood3 hole ok
  · exact fsGood4 hole ok
theorem fsFullA (hi : i < N) (ok) : fstO (evDS (pgS hole (factsX N (fullAt hX i)) ok) (spP N) 2000 60 (.fn 11) [sysW N, begW N, drW] (hpF N) 3) = some (ansF 0 16) := by
  obtain rfl | rfl | rfl | rfl : N = 1 ∨ N = 2 ∨ N = 3 ∨ N = 4 := by omega
  · obtain rfl : i = 0 := by omega
    · exact fsFull1_0 hole ok
  · obtain rfl | rfl : i = 0 ∨ i = 1 := by omega
    · exact fsFull2_0 hole ok
    · exact fsFull2_1 hole ok
  · obtain rfl | rfl | rfl : i = 0 ∨ i = 1 ∨ i = 2 := by omega
    · exact fsFull3_0 hole ok
    · exact fsFull3_1 hole ok
    · exact fsFull3_2 hole ok
  · obtain rfl | rfl | rfl | rfl : i = 0 ∨ i = 1 ∨ i = 2 ∨ i = 3 := by omega
    · exact fsFull4_0 hole ok
    · exact fsFull4_1 hole ok
    · exact fsFull4_2 hole ok
    · exact fsFull4_3 hole ok
theorem fsShortA (hi : i < N) (ok) : fstO (evDS (pgS hole (factsX N (shortAt N hX i)) ok) (spP N) 2000 60 (.fn 11) [sysW N, begW N, drW] (hpF N) 3) = some (ansF i 0) := by
  obtain rfl | rfl | rfl | rfl : N = 1 ∨ N = 2 ∨ N = 3 ∨ N = 4 := by omega
  · obtain rfl : i = 0 := by omega
    · exact fsShort1_0 hole ok
  · obtain rfl | rfl : i = 0 ∨ i = 1 := by omega
    · exact fsShort2_0 hole ok
    · exact fsShort2_1 hole ok
  · obtain rfl | rfl | rfl : i = 0 ∨ i = 1 ∨ i = 2 := by omega
    · exact fsShort3_0 hole ok
    · exact fsShort3_1 hole ok
    · exact fsShort3_2 hole ok
  · obtain rfl | rfl | rfl | rfl : i = 0 ∨ i = 1 ∨ i = 2 ∨ i = 3 := by omega
    · exact fsShort4_0 hole ok
    · exact fsShort4_1 hole ok
    · exact fsShort4_2 hole ok
    · exact fsShort4_3 hole ok
end
def otX (d : Int) (k : Nat) : Int := if k = 32 then d else 0
def mpX (g0 o0 g1 o1 g2 o2 : Nat) : Mp := fun id => if id = 0 then some (g0, o0) else if id = 1 then some (g1, o1) else if id = 2 then some (g2, o2) else none
theorem hpF_get {N : Nat} (id : Nat) (o : AObj) (h : (hpF N).get id = some o) : (id = 0 ∧ o = .win (rowS N)) ∨ (id = 1 ∧ o = .win (rowB N)) ∨ (id = 2 ∧ o = .win [hX]) := by
  unfold hpF at h
  rw [T.get_node] at h
  by_cases h0 : id = 0
  · simp [h0] at h; exact .inl ⟨h0, h.symm⟩
  · simp only [h0, if_false] at h
    split at h
    · rw [T.get_node] at h
      by_cases h1 : id / 2 = 0
      · simp [h1] at h; exact .inr (.inl ⟨by omega, h.symm⟩)
      · simp [h1, T.get_leaf] at h
    · rw [T.get_node] at h
      by_cases h1 : id / 2 - 1 = 0
      · simp [h1] at h; exact .inr (.inr ⟨by omega, h.symm⟩)
      · simp [h1, T.get_leaf] at h
theorem hpF_ro {N : Nat} (id : Nat) : wrt ((hpF N).get id) = false := by
  cases e : (hpF N).get id with
  | none => rfl
  | some o => rcases hpF_get id o e with ⟨_, rfl⟩ | ⟨_, rfl⟩ | ⟨_, rfl⟩ <;> rfl
theorem hpF_rel {P : Pg} {nw : Int} {sc bg ot : Nat → Int} (hd : P.den = DSy nw sc bg ot) {N gs os gb ob gx ox : Nat} {w : World} (h4 : N ≤ 4) (h1 : WinP gs os (4 * N) sc w) (h2 : WinP gb ob (2 * N) bg w) (h3 : WinP gx ox 1 (fun _ => ot 32) w) : HRel P 0 (mpX gs os gb ob gx ox) (hpF N).get w := by
  refine ⟨fun id o e => ?_, fun i j b r r' hi => by rw [hpF_ro i] at hi; cases hi⟩
  rcases hpF_get id o e with ⟨rfl, rfl⟩ | ⟨rfl, rfl⟩ | ⟨rfl, rfl⟩
  · obtain ⟨ob1, k1, k2⟩ := winP_obj (P := P) (M := mpX gs os gb ob gx ox) (row := rowS N) (by simp [rowS]) (fun i v hv => by rw [hd]; exact rowS_dv h4 i v hv) h1 (fun _ => by rw [hd]; trivial)
    exact ⟨gs, os, ob1, rfl, Nat.zero_le _, k1, k2⟩
  · obtain ⟨ob1, k1, k2⟩ := winP_obj (P := P) (M := mpX gs os gb ob gx ox) (row := rowB N) (by simp [rowB]) (fun i v hv => by rw [hd]; exact rowB_dv h4 i v hv) h2 (fun _ => by rw [hd]; trivial)
    exact ⟨gb, ob, ob1, rfl, Nat.zero_le _, k1, k2⟩
  · obtain ⟨ob1, k1, k2⟩ := winP_obj (P := P) (M := mpX gs os gb ob gx ox) (row := [hX]) rfl (fun i v hv => by
      match i with
      | 0 => simp at hv; subst hv; rw [hd]; exact dOt (by decide)
      | i + 1 => simp at hv) h3 (fun _ => by rw [hd]; trivial)
    exact ⟨gx, ox, ob1, rfl, Nat.zero_le _, k1, k2⟩
theorem okX {nw : Int} {sc bg ot : Nat → Int} {N : Nat} (h : SysOk nw sc bg N) {d : Int} (hx : Dv (DSy nw sc bg ot) hX d) (d0 : 0 ≤ d) (d1 : d ≤ 20000) {l : List Fact} (hl : ∀ f ∈ l, OkF (DSy nw sc bg ot) f) : ∀ f ∈ factsX N l, OkF (DSy nw sc bg ot) f := by
  refine ok_app (okSys h) (ok_app (fun f hf => ?_) hl)
  simp only [List.mem_cons, List.not_mem_nil, or_false] at hf
  rcases hf with rfl | rfl
  · exact le_yes (.lit 0) hx d0
  · exact le_yes hx (.lit 20000) d1
/-- what FirstShort answers to one draw -/
def FsAns (nw : Int) (sc bg : Nat → Int) (N : Nat) (d a c : Int) : Prop :=
  (goodB nw sc bg N d ∧ a = 0 ∧ c = 12) ∨ (¬ goodB nw sc bg N d ∧ a = 0 ∧ c = 16) ∨ (¬ goodB nw sc bg N d ∧ 0 ≤ a ∧ a ≤ 3 ∧ c = 0)
theorem fs_any {nw : Int} {sc bg : Nat → Int} {N : Nat} (h : SysOk nw sc bg N) {d : Int} (d0 : 0 ≤ d) (d1 : d ≤ 20000) : ∃ a c, FsAns nw sc bg N d a c ∧ ∀ {gs os cap gb ob cb gx ox cx : Nat} {w : World}, WinP gs os (4 * N) sc w → WinP gb ob (2 * N) bg w → WinP gx ox 1 (fun _ => d) w →
    Calls Tryz.prog 11 #[.agg #[.slice (some ⟨gs, os, none⟩) N cap, .int .i64 nw], .slice (some ⟨gb, ob, none⟩) N cb, .slice (some ⟨gx, ox, none⟩) 1 cx] w fun e w' => e = .returned (.tuple #[.agg #[.int .i64 0, .int .i64 a], .int .i64 c]) ∧ Below w.heap.size w w' := by
  have hN : 1 ≤ N ∧ N ≤ 4 := ⟨h.n1, h.n4⟩
  have hm : Tryz.prog.follows .mixedOrders = true := by kernel_rfl
  have dx : Dv (DSy nw sc bg (otX d)) hX d := dOt (by decide)
  have go : ∀ {l : List Fact} (hl : ∀ f ∈ l, OkF (DSy nw sc bg (otX d)) f) {a c : Int}, fstO (evDS (pgS (holeS nw sc bg (otX d)) (factsX N l) (okX h dx d0 d1 hl)) (spP N) 2000 60 (.fn 11) [sysW N, begW N, drW] (hpF N) 3) = some (ansF a c) → ∀ {gs os cap gb ob cb gx ox cx : Nat} {w : World}, WinP gs os (4 * N) sc w → WinP gb ob (2 * N) bg w → WinP gx ox 1 (fun _ => d) w →
      Calls Tryz.prog 11 #[.agg #[.slice (some ⟨gs, os, none⟩) N cap, .int .i64 nw], .slice (some ⟨gb, ob, none⟩) N cb, .slice (some ⟨gx, ox, none⟩) 1 cx] w fun e w' => e = .returned (.tuple #[.agg #[.int .i64 0, .int .i64 a], .int .i64 c]) ∧ Below w.heap.size w w' := by
    intro l hl a c hrun gs os cap gb ob cb gx ox cx w hw hwb hwx
    refine Calls.mono (run_ro (P := pgS (holeS nw sc bg (otX d)) (factsX N l) (okX h dx d0 d1 hl)) (M := mpX gs os gb ob gx ox) rfl hm (ok_spP (ot := otX d) h (fun _ _ => rfl)) hrun (args' := #[.agg #[.slice (some ⟨gs, os, none⟩) N cap, .int .i64 nw], .slice (some ⟨gb, ob, none⟩) N cb, .slice (some ⟨gx, ox, none⟩) 1 cx])
      (LRel.cons (LRel.agg (LRel.cons (.osl rfl (.lit (N : Int))) (LRel.cons (Dv.vrel (P := pgS (holeS nw sc bg (otX d)) (factsX N l) (okX h dx d0 d1 hl)) dNew) (LRel.nil _)))) (LRel.cons (.osl rfl (.lit (N : Int))) (LRel.cons (.osl rfl (.lit ((1 : Nat) : Int))) (LRel.nil _))))
      (hpF_rel rfl h.n4 hw hwb hwx) (fun id => hpF_ro id) (fun id hid => by unfold mpX; rw [if_neg (by omega), if_neg (by omega), if_neg (by omega)])) ?_
    rintro e w' ⟨M', v', rfl, hvr, hb⟩
    refine ⟨?_, hb⟩
    cases hvr with
    | tup hs h1 =>
      have := LRel.eq (lrel_arr.2 ⟨hs, h1⟩) (fun v hv v' hr => flat2_eq (by
        simp only [List.mem_cons, List.not_mem_nil, or_false] at hv
        rcases hv with rfl | rfl <;> rfl) hr)
      rw [Array.toList_inj.1 this]
      rfl
  rcases ways nw sc bg N d with ⟨g1, g2⟩ | ⟨i, g1, g2, g3⟩ | ⟨i, g1, g2, g3, g4⟩
  · exact ⟨0, 12, .inl ⟨⟨g1, g2⟩, rfl, rfl⟩, go (okGood h.n4 dx g1 g2) (fsGoodA _ hN _)⟩
  · exact ⟨0, 16, .inr (.inl ⟨fun hg => (by have := hg.1 i g1; rw [g2] at this; cases this), rfl, rfl⟩), go (okFullAt h.n4 dx g1 g2 g3) (fsFullA _ hN g1 _)⟩
  · exact ⟨i, 0, .inr (.inr ⟨fun hg => (by have := hg.2 i g1; rw [g3] at this; cases this), by omega, by have := h.n4; omega, rfl⟩), go (okShortAt h.n4 dx g1 g2 g3 g4) (fsShortA _ hN g1 _)⟩

/-! What is known of calls with copies. -/
noncomputable def slIs (hp : T AObj) (n : Nat) (cells : List Value) (v : Value) : Bool :=
  Option.isSome (withSlc v (fun _ _ => none) fun b o m c => ob (hp.get b) fun r => withRow r fun row el opn => ck (Nat.beq o 0 && (Nat.beq m n && eqL (eqT 90) (row.take cells.length) cells)) (some ()))
theorem sl_win {P : Pg} {B : Nat} {M : Mp} {hp : T AObj} {n : Nat} {cells : List Value} {v v' : Value} {w : World} {g : Nat → Int} (h : slIs hp n cells v = true) (hv : VRel P M v v') (hh : HRel P B M hp.get w) (hd : ∀ (i : Nat) (u : Value), cells[i]? = some u → Dv P.den u (g i)) :
    ∃ b' cap, v' = .slice (some ⟨b', 0, none⟩) n cap ∧ WinP b' 0 cells.length g w := by
  unfold slIs at h
  obtain ⟨u, hu⟩ := Option.isSome_iff_exists.1 h
  rcases withSlc_some hu with ⟨_, _, _, h7⟩ | ⟨b, o, m, c, rfl, h7⟩
  · cases h7
  obtain ⟨r, hr, h8⟩ := ob_some h7
  obtain ⟨row, el, opn, rfl, h9⟩ := withRow_some h8
  obtain ⟨hk, _⟩ := ck_some h9
  simp only [Bool.and_eq_true] at hk
  obtain ⟨k1, k2, k3⟩ := hk
  have k1 := Nat.eq_of_beq_eq_true k1
  have k2 := Nat.eq_of_beq_eq_true k2
  have k3 := eqL_eq (fun a b => eqT_eq 90 a b) k3
  subst k1 k2
  have hlen : cells.length ≤ row.length := by
    have := congrArg List.length k3
    rw [List.length_take] at this
    omega
  have fin : ∀ b' rr, M b = some (b', rr) → WinP b' 0 cells.length g w := fun b' rr hb => by
    obtain ⟨b1, r1, ob, j1, j2, j3, j4⟩ := hh.has b _ hr
    rw [hb] at j1
    cases j1
    obtain ⟨c', rfl, _, g1, g2⟩ := j4
    have hrow : LRel P M row (c'.toList.take row.length) := by
      cases opn with
      | true => exact (g2 rfl).1
      | false =>
        have := g1 rfl
        rw [List.take_of_length_le (by rw [this.1]; exact Nat.le_refl _)]
        exact this
    refine ⟨c', el, (0, 0), j3, fun k hk => ?_⟩
    rw [Nat.zero_add]
    have e1 : row[k]? = cells[k]? := by rw [← k3, List.getElem?_take, if_pos hk]
    have e2 : cells[k]? = some cells[k] := List.getElem?_eq_getElem hk
    obtain ⟨x, hx, hr⟩ := hrow.get (e1.trans e2)
    have dd := hd k _ e2
    obtain ⟨y, rfl, dy⟩ := vrel_num hr dd.num
    rw [dd.unique _ dy]
    rw [List.getElem?_take] at hx
    split at hx
    · simpa using hx
    · cases hx
  obtain ⟨b', r', hb, hc⟩ := slc_inv hv
  rcases hc with ⟨_, rfl⟩ | ⟨_, _, _, rfl⟩ | ⟨_, cc, _, rfl⟩
  · exact ⟨b', _, rfl, fin b' r' hb⟩
  · exact ⟨b', _, rfl, fin b' r' hb⟩
  · exact ⟨b', _, rfl, fin b' r' hb⟩
noncomputable def spGN (f N : Nat) (res : Value) : CallF := fun t args hp nid =>
  match t with
  | .fn g => ck (Nat.beq g f && Nat.beq args.length 2) (ob args[0]? fun a => ob args[1]? fun b => withAgg a fun cs => ob cs[0]? fun s => ob cs[1]? fun nw => ck (Nat.beq cs.toList.length 2 && (slIs hp N (rowS N) s && (eqT 90 nw hNew && slIs hp N (rowB N) b))) (some (res, hp, nid)))
  | .yield _ => none
noncomputable def spFS (f N : Nat) (x res : Value) : CallF := fun t args hp nid =>
  match t with
  | .fn g => ck (Nat.beq g f && Nat.beq args.length 3) (ob args[0]? fun a => ob args[1]? fun b => ob args[2]? fun c => withAgg a fun cs => ob cs[0]? fun s => ob cs[1]? fun nw => ck (Nat.beq cs.toList.length 2 && (slIs hp N (rowS N) s && (eqT 90 nw hNew && (slIs hp N (rowB N) b && slIs hp 1 [x] c)))) (some (res, hp, nid)))
  | .yield _ => none
theorem ok_spGN {P : Pg} (hp : P.prog = Tryz.prog) {nw : Int} {sc bg ot : Nat → Int} (hd : P.den = DSy nw sc bg ot) {N f : Nat} (h4 : N ≤ 4) {res : Value} (key : ∀ gs os cap gb ob cb w, WinP gs os (4 * N) sc w → WinP gb ob (2 * N) bg w →
    Calls Tryz.prog f #[.agg #[.slice (some ⟨gs, os, none⟩) N cap, .int .i64 nw], .slice (some ⟨gb, ob, none⟩) N cb] w fun e w' => (∃ v', e = .returned v' ∧ ∀ M, VRel P M res v') ∧ Below w.heap.size w w') : CallOk P (spGN f N res) := fun t args hp0 nid v hp' nid' h => by
  cases t with
  | yield l => cases h
  | fn g =>
    obtain ⟨hg0, h1⟩ := ck_some h
    clear h
    simp only [Bool.and_eq_true] at hg0
    have hg := Nat.eq_of_beq_eq_true hg0.1
    subst hg
    obtain ⟨a, ha, h2⟩ := ob_some h1
    clear h1
    obtain ⟨b, hb, h3⟩ := ob_some h2
    clear h2
    obtain ⟨cs, rfl, h4'⟩ := withAgg_some h3
    clear h3
    obtain ⟨s, hs, h5⟩ := ob_some h4'
    clear h4'
    obtain ⟨nv, hnv, h6⟩ := ob_some h5
    clear h5
    obtain ⟨hk, h7⟩ := ck_some h6
    clear h6
    cases h7
    simp only [Bool.and_eq_true] at hk
    obtain ⟨k0, k1, k2, k3⟩ := hk
    have k0 := Nat.eq_of_beq_eq_true k0
    have k2 := eqT_eq _ _ _ k2
    subst k2
    refine ⟨Nat.le_refl _, fun B M args' w hargs hh hB hf => ?_⟩
    obtain ⟨a0, q0, r0⟩ := hargs.get ha
    obtain ⟨a1, q1, r1⟩ := hargs.get hb
    have hlen2 : args'.toList.length = 2 := by rw [← hargs.1]; exact Nat.eq_of_beq_eq_true hg0.2
    have e2 : args' = #[a0, a1] := by
      apply Array.ext'
      match he : args'.toList, hlen2 with
      | [z0, z1], _ => rw [he] at q0 q1; simp at q0 q1; rw [q0, q1]
    subst e2
    obtain ⟨b1, c1, rfl, w1⟩ := sl_win (g := bg) k3 r1 hh (fun i u hu => by rw [hd]; exact rowB_dv h4 i u hu)
    cases r0 with
    | @agg _ a' hsz hel =>
      have hL : LRel P M cs.toList a'.toList := lrel_arr.2 ⟨hsz, hel⟩
      obtain ⟨v0, p0, s0⟩ := hL.get (i := 0) (by simpa using hs)
      obtain ⟨v1, p1, s1⟩ := hL.get (i := 1) (by simpa using hnv)
      have ha3 : a' = #[v0, v1] := by
        apply Array.ext'
        have h3 : a'.toList.length = 2 := by rw [← hL.1]; exact k0
        match he : a'.toList, h3 with
        | [z0, z1], _ => rw [he] at p0 p1; simp at p0 p1; rw [p0, p1]
      subst ha3
      obtain ⟨b0, c0, rfl, w0⟩ := sl_win (g := sc) k1 s0 hh (fun i u hu => by rw [hd]; exact rowS_dv h4 i u hu)
      have dn : Dv P.den hNew nw := by rw [hd]; exact dNew
      obtain ⟨x, rfl, dx⟩ := vrel_num s1 dn.num
      have := dn.unique _ dx
      subst this
      show Calls P.prog _ _ _ _
      rw [hp]
      refine Calls.mono (key b0 0 c0 b1 0 c1 w (by simpa [rowS] using w0) (by simpa [rowB] using w1)) ?_
      rintro e w' ⟨⟨v', rfl, hv⟩, hbl⟩
      obtain ⟨z1, z2⟩ := below_post nid hh hbl
      exact ⟨M, v', rfl, hv M, z1, z2⟩
theorem ok_spFS {P : Pg} (hp : P.prog = Tryz.prog) {nw : Int} {sc bg ot : Nat → Int} (hd : P.den = DSy nw sc bg ot) {N f : Nat} (h4 : N ≤ 4) {x res : Value} {d : Int} (hx : Dv P.den x d) (key : ∀ gs os cap gb ob cb gx ox cx w, WinP gs os (4 * N) sc w → WinP gb ob (2 * N) bg w → WinP gx ox 1 (fun _ => d) w →
    Calls Tryz.prog f #[.agg #[.slice (some ⟨gs, os, none⟩) N cap, .int .i64 nw], .slice (some ⟨gb, ob, none⟩) N cb, .slice (some ⟨gx, ox, none⟩) 1 cx] w fun e w' => (∃ v', e = .returned v' ∧ ∀ M, VRel P M res v') ∧ Below w.heap.size w w') : CallOk P (spFS f N x res) := fun t args hp0 nid v hp' nid' h => by
  cases t with
  | yield l => cases h
  | fn g =>
    obtain ⟨hg0, h1⟩ := ck_some h
    clear h
    simp only [Bool.and_eq_true] at hg0
    have hg := Nat.eq_of_beq_eq_true hg0.1
    subst hg
    obtain ⟨a, ha, h2⟩ := ob_some h1
    clear h1
    obtain ⟨b, hb, h3⟩ := ob_some h2
    clear h2
    obtain ⟨c, hc, h3'⟩ := ob_some h3
    clear h3
    obtain ⟨cs, rfl, h4'⟩ := withAgg_some h3'
    clear h3'
    obtain ⟨s, hs, h5⟩ := ob_some h4'
    clear h4'
    obtain ⟨nv, hnv, h6⟩ := ob_some h5
    clear h5
    obtain ⟨hk, h7⟩ := ck_some h6
    clear h6
    cases h7
    simp only [Bool.and_eq_true] at hk
    obtain ⟨k0, k1, k2, k3, k4⟩ := hk
    have k0 := Nat.eq_of_beq_eq_true k0
    have k2 := eqT_eq _ _ _ k2
    subst k2
    refine ⟨Nat.le_refl _, fun B M args' w hargs hh hB hf => ?_⟩
    obtain ⟨a0, q0, r0⟩ := hargs.get ha
    obtain ⟨a1, q1, r1⟩ := hargs.get hb
    obtain ⟨a2, q2, r2⟩ := hargs.get hc
    have hlen2 : args'.toList.length = 3 := by rw [← hargs.1]; exact Nat.eq_of_beq_eq_true hg0.2
    have e2 : args' = #[a0, a1, a2] := by
      apply Array.ext'
      match he : args'.toList, hlen2 with
      | [z0, z1, z2], _ => rw [he] at q0 q1 q2; simp at q0 q1 q2; rw [q0, q1, q2]
    subst e2
    obtain ⟨b1, c1, rfl, w1⟩ := sl_win (g := bg) k3 r1 hh (fun i u hu => by rw [hd]; exact rowB_dv h4 i u hu)
    obtain ⟨b2, c2, rfl, w2⟩ := sl_win (g := fun _ => d) k4 r2 hh (fun i u hu => by
      match i with
      | 0 => simp at hu; subst hu; exact hx
      | i + 1 => simp at hu)
    cases r0 with
    | @agg _ a' hsz hel =>
      have hL : LRel P M cs.toList a'.toList := lrel_arr.2 ⟨hsz, hel⟩
      obtain ⟨v0, p0, s0⟩ := hL.get (i := 0) (by simpa using hs)
      obtain ⟨v1, p1, s1⟩ := hL.get (i := 1) (by simpa using hnv)
      have ha3 : a' = #[v0, v1] := by
        apply Array.ext'
        have h3 : a'.toList.length = 2 := by rw [← hL.1]; exact k0
        match he : a'.toList, h3 with
        | [z0, z1], _ => rw [he] at p0 p1; simp at p0 p1; rw [p0, p1]
      subst ha3
      obtain ⟨b0, c0, rfl, w0⟩ := sl_win (g := sc) k1 s0 hh (fun i u hu => by rw [hd]; exact rowS_dv h4 i u hu)
      have dn : Dv P.den hNew nw := by rw [hd]; exact dNew
      obtain ⟨x, rfl, dx⟩ := vrel_num s1 dn.num
      have := dn.unique _ dx
      subst this
      show Calls P.prog _ _ _ _
      rw [hp]
      refine Calls.mono (key b0 0 c0 b1 0 c1 b2 0 c2 w (by simpa [rowS] using w0) (by simpa [rowB] using w1) w2) ?_
      rintro e w' ⟨⟨v', rfl, hv⟩, hbl⟩
      obtain ⟨z1, z2⟩ := below_post nid hh hbl
      exact ⟨M, v', rfl, hv M, z1, z2⟩
end Sy
end Go.Proofs.YtdejmleboflopaaGreat
