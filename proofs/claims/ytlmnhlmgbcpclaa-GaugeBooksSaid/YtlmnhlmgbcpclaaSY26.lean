import Derived.Test.YtlmnhlmgbcpclaaSY25
set_option linter.unusedSimpArgs false
set_option linter.unusedVariables false
namespace Go.Proofs.Ytlmnhlmgbcpclaa
namespace Sy
variable {P : Pg}
open Go.RowKit

/-! Lists in memory, as families. -/
def lenV (v : Value) : Int :=
  match v with
  | .slice _ n _ => n
  | _ => 0
/-- what symbols stand for, out of what families are -/
def famD (hole : Nat → Value) (num : Nat → List Int → Int) (str : Nat → List Int → ByteArray) (slc : Nat → List Int → Value) (ro : Nat → Option (Array Value)) (obj : Nat → List Int → Obj → Prop) : Dn :=
  { hole := hole, int := fun t xs => if 2000 ≤ t then ((str (t - 2000) xs).size : Int) else if 1000 ≤ t then lenV (slc (t - 1000) xs) else num t xs, obj := obj, slc := slc, str := str, ro := ro }
theorem famD_sl {hole num str slc ro obj} (c : Nat) (xs : List Int) : (famD hole num str slc ro obj).int (2000 + c) xs = ((famD hole num str slc ro obj).str c xs).size := by
  show (if 2000 ≤ 2000 + c then _ else _) = _
  rw [if_pos (by omega), Nat.add_sub_cancel_left]
  rfl
theorem famD_len {hole num str slc ro obj} {c : Nat} (hc : c < 1000) (xs : List Int) : (famD hole num str slc ro obj).int (1000 + c) xs = lenV (slc c xs) := by
  show (if 2000 ≤ 1000 + c then _ else if 1000 ≤ 1000 + c then _ else _) = _
  rw [if_neg (by omega), if_pos (by omega), Nat.add_sub_cancel_left]
theorem famD_num {hole num str slc ro obj} {t : Nat} (ht : t < 1000) (xs : List Int) : (famD hole num str slc ro obj).int t xs = num t xs := by
  show (if 2000 ≤ t then _ else if 1000 ≤ t then _ else _) = _
  rw [if_neg (by omega), if_neg (by omega)]
/-- a list: so many elements of so many cells -/
def ListW (ro : Nat → Option (Array Value)) (v : Value) (n s : Nat) (g : Nat → Nat → Value) : Prop :=
  ∃ (sa : Option Addr) (cap : Nat), v = .slice sa n cap ∧ (0 < n → ∃ (b r : Nat) (cs : Array Value), sa = some ⟨b, r, none⟩ ∧ ro b = some cs ∧ ∀ i j, i < n → j < s → cs[r + i * s + j]? = some (g i j))
theorem listW_none (ro : Nat → Option (Array Value)) (s : Nat) (g : Nat → Nat → Value) : ListW ro (.slice none 0 0) 0 s g := ⟨_, _, rfl, fun h => by omega⟩
theorem fam_ok {D : Dn} {c : Nat} {fs : List (Nat × Nat)} (h : ∀ xs : List Int, D.int (1000 + c) xs = lenV (D.slc c xs) ∧ ∃ (n : Nat) (g : Nat → Nat → Value), ListW D.ro (D.slc c xs) n fs.length g ∧ ∀ i j f, i < n → fs[j]? = some f → g i j = formV D f (xs ++ [(i : Int)])) :
    ∀ xs : List Int, ∃ (sa : Option Addr) (n cap : Nat), D.slc c xs = .slice sa n cap ∧ D.int (1000 + c) xs = n ∧ (0 < n → ∃ (b r : Nat) (cs : Array Value), sa = some ⟨b, r, none⟩ ∧ D.ro b = some cs ∧
      ∀ (k j : Nat) (f : Nat × Nat), k < n → fs[j]? = some f → cs[r + k * fs.length + j]? = some (formV D f (xs ++ [(k : Int)]))) := fun xs => by
  obtain ⟨hl, n, g, ⟨sa, cap, e, hc⟩, hg⟩ := h xs
  refine ⟨sa, n, cap, e, by rw [hl, e]; rfl, fun hn => ?_⟩
  obtain ⟨b, r, cs, e1, e2, e3⟩ := hc hn
  refine ⟨b, r, cs, e1, e2, fun k j f hk hj => ?_⟩
  rw [← hg k j f hk hj]
  exact e3 k j hk (List.getElem?_eq_some_iff.1 hj).1
/-- the rows of a world -/
def roW (w : World) : Nat → Option (Array Value) := fun b =>
  match w.heap[b]? with
  | some (.cells c _ _) => some c
  | _ => none
theorem roW_some {w : World} {b : Nat} {c : Array Value} (h : roW w b = some c) : ∃ e fr, w.heap[b]? = some (.cells c e fr) := by
  unfold roW at h
  split at h
  · rename_i c' e fr hb
    cases h
    exact ⟨e, fr, hb⟩
  · cases h
theorem roW_of {w : World} {b : Nat} {c : Array Value} {e : TypeId} {fr : Nat × Nat} (h : w.heap[b]? = some (.cells c e fr)) : roW w b = some c := by
  unfold roW
  rw [h]
theorem roOk_of {w : World} (h : P.den.ro = roW w) : RoOk P w := fun b c hb => roW_some (by rw [← h]; exact hb)
theorem listW_of {w : World} {sa : Option Addr} {n cap b r s : Nat} {g : Nat → Nat → Value} (hsa : 0 < n → sa = some ⟨b, r, none⟩) (h0 : 0 < s) (h : ∀ i j, i < n → j < s → w.cell? ⟨b, r + i * s + j, none⟩ = some (g i j)) : ListW (roW w) (.slice sa n cap) n s g := by
  refine ⟨sa, cap, rfl, fun hn => ?_⟩
  have hc := h 0 0 hn h0
  have hcell : ∃ c e fr, w.heap[b]? = some (.cells c e fr) := by
    unfold World.cell? at hc
    split at hc
    · rename_i c e fr hb
      exact ⟨c, e, fr, hb⟩
    · cases hc
  obtain ⟨c, e, fr, hb⟩ := hcell
  refine ⟨b, r, c, hsa hn, roW_of hb, fun i j hi hj => ?_⟩
  have := h i j hi hj
  unfold World.cell? at this
  rw [hb] at this
  exact this
theorem ListW.cell {w : World} {v : Value} {n s : Nat} {g : Nat → Nat → Value} (h : ListW (roW w) v n s g) : ∃ (sa : Option Addr) (b r cap : Nat), v = .slice sa n cap ∧ (0 < n → sa = some ⟨b, r, none⟩) ∧ ∀ i j, i < n → j < s → w.cell? ⟨b, r + i * s + j, none⟩ = some (g i j) := by
  obtain ⟨sa, cap, e, hc⟩ := h
  by_cases hn : 0 < n
  · obtain ⟨b, r, cs, e1, e2, e3⟩ := hc hn
    obtain ⟨el, fr, hb⟩ := roW_some e2
    refine ⟨sa, b, r, cap, e, fun _ => e1, fun i j hi hj => ?_⟩
    unfold World.cell?
    rw [hb]
    exact e3 i j hi hj
  · exact ⟨sa, 0, 0, cap, e, fun h => absurd h hn, fun i j hi => by omega⟩
theorem run_entQ {k n m f : Nat} {pats : List Pt} {tb : List LSpec} {sp : CallF} {Q : Pd} (hQ : P.toPd = Q) (hm : P.prog.follows .mixedOrders = true) (hg : GoodE sp m P tb) {v : Value} (hrun : fstO ((evE sp k n Q tb).1 (.fn f) (ptVals 0 pats) (memT (ptObjs pats)) 3) = some v) (hv : noId 9 v = true)
    (hl : (ptObjs pats).length ≤ 3) (hnum : (ptObjs pats).all numO = true) : EntOk P ⟨f, pats, .v v⟩ := by
  subst hQ
  exact run_entE hm hg hrun hv hl hnum
/-- a contract: out of a run of which the result is a number that is told -/
theorem ent_calls {f : Nat} {pats : List Pt} {v : Value} (h : EntOk P ⟨f, pats, .v v⟩) {args : Array Value} {w : World} (ha : PtsR P w pats args.toList) {v' : Value} (hv : ∀ u, VRel P (fun _ => none) v u → u = v') : Calls P.prog f args w fun e w' => e = .returned v' ∧ Below w.heap.size w w' := by
  refine Calls.mono (h args w ha) ?_
  rintro e w' ⟨hb, u, rfl, hr⟩
  exact ⟨by rw [hv u (hr _)], hb⟩
theorem rel_num {v : Value} {x : Int} (d : Dv P.den v x) : ∀ u, VRel P (fun _ => none) v u → u = .int .i64 x := fun u h => by
  obtain ⟨y, rfl, dy⟩ := vrel_num h d.num
  rw [d.unique _ dy]
theorem rel_bool {b : Bool} : ∀ u, VRel P (fun _ => none) (.bool b) u → u = .bool b := fun u h => by cases h; rfl
theorem rel_tup2 {a b x y : Value} (ha : ∀ u, VRel P (fun _ => none) a u → u = x) (hb : ∀ u, VRel P (fun _ => none) b u → u = y) : ∀ u, VRel P (fun _ => none) (.tuple #[a, b]) u → u = .tuple #[x, y] := fun u h => by
  cases h with
  | @tup _ a' hs h1 =>
    obtain ⟨p, q, rfl⟩ := arr2 (lrel_arr.2 ⟨hs, h1⟩) rfl
    rw [ha p (h1 0 _ _ rfl rfl), hb q (h1 1 _ _ rfl rfl)]
theorem rel_agg2 {a b x y : Value} (ha : ∀ u, VRel P (fun _ => none) a u → u = x) (hb : ∀ u, VRel P (fun _ => none) b u → u = y) : ∀ u, VRel P (fun _ => none) (.agg #[a, b]) u → u = .agg #[x, y] := fun u h => by
  cases h with
  | @agg _ a' hs h1 =>
    obtain ⟨p, q, rfl⟩ := arr2 (lrel_arr.2 ⟨hs, h1⟩) rfl
    rw [ha p (h1 0 _ _ rfl rfl), hb q (h1 1 _ _ rfl rfl)]
end Sy
end Go.Proofs.Ytlmnhlmgbcpclaa
