import Derived.Test.YtbijhcoloajjaaaZ3
import Derived.RangeFuncLeaves
import Derived.Shelf.Abstract
/- flor's corners as a function; the least and the greatest mean of choices, as plain functions. -/
namespace Go.Proofs.Ytbijhcoloajjaaa
open Go.RowKit

set_option maxHeartbeats 1000000 in
theorem leastSugar_any (v0 v1 s0 s1 c0 c1 : Int) (w : World)  :
    Calls Try.prog 36 #[.agg #[.int .i64 v0, .int .i64 v1, .int .i64 s0, .int .i64 s1, .int .i64 c0, .int .i64 c1]] w fun e w' => e = .returned (.int .i64 c0) ∧ Below w.heap.size w w' := by
  go_enter Try.func36, Try.ntmps36
  go_wp2
  go_ret
  exact ⟨rfl, by go_grown⟩
theorem newBoth {Wp W2 : World} {cs : Array Value} {t : TypeId} {B : Nat} (hB : Wp.heap.size = B) (h2 : Below (Wp.alloc (.cells cs t)).heap.size (Wp.alloc (.cells cs t)) W2) (i : Nat) (v : Value) (hv : cs[i]? = some v) : W2.cell? ⟨B, i, none⟩ = some v ∧ W2.frozen? ⟨B, i, none⟩ = false := by
  subst hB; exact newHeld h2 i v hv
theorem KeptBut.set {B : Nat → Prop} {W U : World} (h : KeptBut B W U) {p : Addr} {v : Value} (hb : B p.block) : KeptBut B W (U.setCell p v) :=
  ⟨by rw [World.size_setCell]; exact h.1, h.2.1, h.2.2.1, h.2.2.2.1, fun k hk hn => (Below.heap_setCell U p v k (fun e => hn (by first | (rw [e]; exact hb) | (rw [← e]; exact hb)))).trans (h.2.2.2.2 k hk hn)⟩
theorem nameWorldIn {P : Program} {F : Fence} {m : Nat} {s : Code} {Q : Exit → Act → World → Prop} {a : Act} {w : World} (R : World → Prop) (hR : R w) (h : ∀ W, R W → s.wpIn F m P Q a W) : s.wpIn F m P Q a w := h w hR
theorem run_store_fn {P : Program} {w : World} (a : Addr) (m : Mode) (g : Fn) (xs ys : Array Value) : (store a (.func g xs ys) m).run P w = stored P w a (.func g xs ys) m := run_store P w a _ m rfl
attribute [local go_sem] run_store_fn
theorem corners_any (sa : Option Addr) (n cp : Nat) (w : World) :
    Calls Try.prog 58 #[.slice sa n cp] w fun e w' => ∃ bm be, e = .returned (.func (.func 68) #[] #[.pointer (some ⟨bm, 0, none⟩), .pointer (some ⟨be, 0, none⟩)]) ∧ w.heap.size ≤ bm ∧ w.heap.size ≤ be ∧
      w'.cell? ⟨bm, 0, none⟩ = some (.slice sa n cp) ∧ w'.cell? ⟨be, 0, none⟩ = some (.func (.func 47) #[] #[]) ∧ w'.cell? ⟨be, 1, none⟩ = some (.func (.func 48) #[] #[]) ∧ Below w.heap.size w w' := by
  go_enter Try.func58, Try.ntmps58
  go_wp2
  go_ret
  refine ⟨_, _, rfl, Nat.le_refl _, by omega, by go_cell, by go_cell, by go_cell, by go_grown⟩
def sumC (f : Nat → Wn) (g : Wn → Int) (c : Nat) : Nat → Int
  | 0 => 0
  | m + 1 => sumC f g c m + volC f c m * g (f m)
def loS (f : Nat → Wn) (g : Wn → Int) (n : Nat) (a : Int) (c : Nat) : Int := min a (fl (sumC f g c n) (totC f c n))
def hiS (f : Nat → Wn) (g : Wn → Int) (n : Nat) (a : Int) (c : Nat) : Int := max a (ce (sumC f g c n) (totC f c n))
def loF (f : Nat → Wn) (g : Wn → Int) (n : Nat) (l : List Nat) : Int := l.foldl (loS f g n) 9223372036854775807
def hiF (f : Nat → Wn) (g : Wn → Int) (n : Nat) (l : List Nat) : Int := l.foldl (hiS f g n) 0
theorem loF_snoc (f : Nat → Wn) (g : Wn → Int) (n : Nat) (l : List Nat) (c : Nat) : loF f g n (l ++ [c]) = loS f g n (loF f g n l) c := by simp [loF]
theorem hiF_snoc (f : Nat → Wn) (g : Wn → Int) (n : Nat) (l : List Nat) (c : Nat) : hiF f g n (l ++ [c]) = hiS f g n (hiF f g n l) c := by simp [hiF]
theorem sumC_bd {f : Nat → Wn} {g : Wn → Int} {n : Nat} (hv : ∀ i, i < n → (f i).err = 0) (hg : ∀ i, i < n → 0 ≤ g (f i) ∧ g (f i) ≤ 100000) (c : Nat) : ∀ m, m ≤ n → 0 ≤ sumC f g c m ∧ sumC f g c m ≤ 10000000000 * (m : Int)
  | 0, _ => by simp [sumC]
  | m + 1, h => by
    have h1 := sumC_bd hv hg c m (by omega)
    have h2 := volC_bd hv c (i := m) (by omega)
    have h3 := hg m (by omega)
    have h4 := mul_bd (volC f c m) (g (f m)) 100000 100000 h2.1 h2.2 h3.1 h3.2
    unfold sumC
    omega
end Go.Proofs.Ytbijhcoloajjaaa

/- flor's volume of a mixture. -/
namespace Go.Proofs.Ytbijhcoloajjaaa
open Go.RowKit

def vLo (f : Nat → Wn) : Nat → Int
  | 0 => 0
  | m + 1 => vLo f m + (f m).v0
def vHi (f : Nat → Wn) : Nat → Int
  | 0 => 0
  | m + 1 => vHi f m + (f m).v1
theorem vLo_bd {f : Nat → Wn} {n : Nat} (hv : ∀ i, i < n → (f i).err = 0) : ∀ m, m ≤ n → 0 ≤ vLo f m ∧ vLo f m ≤ vHi f m ∧ vHi f m ≤ 100000 * (m : Int)
  | 0, _ => by simp [vLo, vHi]
  | m + 1, h => by
    have h1 := vLo_bd hv m (by omega)
    obtain ⟨⟨a, b, d⟩, -, -⟩ := wineE_zero.1 (hv m (by omega))
    unfold vLo vHi
    omega
set_option linter.unusedVariables false in
set_option linter.unusedSimpArgs false in
set_option maxRecDepth 100000 in
set_option maxHeartbeats 8000000 in
theorem volume_any (f : Nat → Wn) (rb ro n cp : Nat) (w : World) (hn0 : 0 < n) (hn : n ≤ 8) (hv : ∀ i, i < n → (f i).err = 0)
    (hc : ∀ i j, i < n → j < 6 → w.cell? ⟨rb, ro + i * 6 + j, none⟩ = some (.int .i64 ((f i).at j))) :
    Calls Try.prog 32 #[.slice (some ⟨rb, ro, none⟩) n cp] w fun e w' => e = .returned (.agg #[.int .i64 (vLo f n), .int .i64 (vHi f n)]) ∧ Below w.heap.size w w' := by
  have HC := Lib.hid hc
  have HV := Lib.hid hv
  clear hc hv
  have hn1 : (0 : Int) < (n : Int) := by omega
  obtain ⟨B0, hB0⟩ : ∃ B, w.heap.size = B := ⟨_, rfl⟩
  go_enter Try.func32, Try.ntmps32
  go_upto_region 3 with fail
  go_loopw [8] (fun i wr => ∃ j : Nat, (j ≤ n ∧ i = .int .i64 j) ∧ Hid (wr.cell? ⟨B0 + 1, 0, none⟩ = some (.int .i64 (vLo f j)) ∧ wr.cell? ⟨B0 + 1, 1, none⟩ = some (.int .i64 (vHi f j)) ∧ wr.cell? ⟨B0, 0, none⟩ = some (.int .i64 0) ∧ wr.cell? ⟨B0, 1, none⟩ = some (.int .i64 0) ∧ wr.frozen? ⟨B0 + 1, 0, none⟩ = false ∧ wr.frozen? ⟨B0 + 1, 1, none⟩ = false ∧ wr.frozen? ⟨B0, 0, none⟩ = false ∧ wr.frozen? ⟨B0, 1, none⟩ = false ∧ Below B0 w wr))
    (fun i _ => n - (intOf i).toNat)
  case atStart =>
    have ha := (Below.refl _ (w.alloc (.cells #[.int .i64 0, .int .i64 0] 25))).alloc (Nat.le_refl _) (.cells #[.int .i64 0, .int .i64 0] 25)
    have hb := Below.refl ((w.alloc (.cells #[.int .i64 0, .int .i64 0] 25)).alloc (.cells #[.int .i64 0, .int .i64 0] 25)).heap.size ((w.alloc (.cells #[.int .i64 0, .int .i64 0] 25)).alloc (.cells #[.int .i64 0, .int .i64 0] 25))
    obtain ⟨r0, zr0⟩ := newBoth (B := B0) hB0 ha 0 _ rfl
    obtain ⟨r1, zr1⟩ := newBoth (B := B0) hB0 ha 1 _ rfl
    obtain ⟨p0, zp0⟩ := newBoth (B := B0 + 1) (by rw [World.size_alloc, hB0]) hb 0 _ rfl
    obtain ⟨p1, zp1⟩ := newBoth (B := B0 + 1) (by rw [World.size_alloc, hB0]) hb 1 _ rfl
    refine ⟨0, ⟨Nat.zero_le _, rfl⟩, Lib.hid ⟨p0, p1, r0, r1, zp0, zp1, zr0, zr1, ?_⟩⟩
    rw [← hB0]
    go_grown
  case round =>
    obtain ⟨j, ⟨hj, rfl⟩, HS⟩ := hrel
    obtain ⟨p0, p1, r0, r1, zp0, zp1, zr0, zr1, hB⟩ := HS.out
    have hs1 : B0 + 1 < wr.heap.size := World.block_lt_of_cell? wr _ p0
    clear HS
    by_cases hlt : j < n
    · obtain ⟨⟨x0, x1, x2, x3, x4, x5⟩, hx⟩ : ∃ x, f j = x := ⟨_, rfl⟩
      have d0 := keepC ((show Below w.heap.size w wr by rw [hB0]; exact hB)) (HC.out j 0 hlt (by decide))
      rw [hx] at d0
      rw [Nat.add_zero] at d0
      dsimp only [Wn.at] at d0
      have d1 := keepC ((show Below w.heap.size w wr by rw [hB0]; exact hB)) (HC.out j 1 hlt (by decide))
      rw [hx] at d1
      dsimp only [Wn.at] at d1
      have d2 := keepC ((show Below w.heap.size w wr by rw [hB0]; exact hB)) (HC.out j 2 hlt (by decide))
      rw [hx] at d2
      dsimp only [Wn.at] at d2
      have d3 := keepC ((show Below w.heap.size w wr by rw [hB0]; exact hB)) (HC.out j 3 hlt (by decide))
      rw [hx] at d3
      dsimp only [Wn.at] at d3
      have d4 := keepC ((show Below w.heap.size w wr by rw [hB0]; exact hB)) (HC.out j 4 hlt (by decide))
      rw [hx] at d4
      dsimp only [Wn.at] at d4
      have d5 := keepC ((show Below w.heap.size w wr by rw [hB0]; exact hB)) (HC.out j 5 hlt (by decide))
      rw [hx] at d5
      dsimp only [Wn.at] at d5
      have hbd := vLo_bd HV.out j (by omega)
      obtain ⟨⟨R0, R1, R2⟩, -, -⟩ := wineE_zero.1 (hx ▸ HV.out j hlt)
      dsimp only at R0 R1 R2
      obtain ⟨al, hal⟩ : ∃ t, vLo f j = t := ⟨_, rfl⟩
      obtain ⟨ah, hah⟩ : ∃ t, vHi f j = t := ⟨_, rfl⟩
      rw [hal, hah] at hbd
      rw [hal] at p0
      rw [hah] at p1
      have hlo : vLo f (j + 1) = al + x0 := by rw [vLo, hal, hx]
      have hhi : vHi f (j + 1) = ah + x1 := by rw [vHi, hah, hx]
      have HLO := Lib.hid hlo
      have HHI := Lib.hid hhi
      have hb1 : 0 ≤ al ∧ al ≤ 800000 := by omega
      have hb2 : 0 ≤ ah ∧ ah ≤ 800000 := by omega
      have u0 : IntKind.i64.wrap (al + x0) = al + x0 := IntWalk.i64_in _ (by omega)
      have u1 : IntKind.i64.wrap (ah + x1) = ah + x1 := IntWalk.i64_in _ (by omega)
      clear hlo hhi hal hah hx hbd
      have hk0 : (0 : Int) ≤ (j : Int) := by omega
      have hk1 : (j : Int) < (n : Int) := by omega
      go_upto_region 5 with fail
      obtain ⟨BW, hBW⟩ : ∃ B, wr.heap.size = B := ⟨_, rfl⟩
      rw [hBW]
      refine nameWorld (fun w' => w'.cell? ⟨BW, 0, none⟩ = some (.int .i64 x0) ∧ w'.cell? ⟨BW, 1, none⟩ = some (.int .i64 x1) ∧ w'.cell? ⟨BW, 2, none⟩ = some (.int .i64 x2) ∧ w'.cell? ⟨BW, 3, none⟩ = some (.int .i64 x3) ∧ w'.cell? ⟨BW, 4, none⟩ = some (.int .i64 x4) ∧ w'.cell? ⟨BW, 5, none⟩ = some (.int .i64 x5) ∧ w'.cell? ⟨B0 + 1, 0, none⟩ = some (.int .i64 al) ∧ w'.cell? ⟨B0 + 1, 1, none⟩ = some (.int .i64 ah) ∧ w'.cell? ⟨B0, 0, none⟩ = some (.int .i64 0) ∧ w'.cell? ⟨B0, 1, none⟩ = some (.int .i64 0) ∧ w'.frozen? ⟨B0 + 1, 0, none⟩ = false ∧ w'.frozen? ⟨B0 + 1, 1, none⟩ = false ∧ w'.frozen? ⟨B0, 0, none⟩ = false ∧ w'.frozen? ⟨B0, 1, none⟩ = false ∧ Below B0 w w') ?_ (fun wc hc => ?_)
      · rw [← hBW]; have hb9 := (Below.refl _ wr).alloc (Nat.le_refl _) (.cells #[.int .i64 x0, .int .i64 x1, .int .i64 x2, .int .i64 x3, .int .i64 x4, .int .i64 x5] 76)
        exact ⟨newCell 0 _ rfl, newCell 1 _ rfl, newCell 2 _ rfl, newCell 3 _ rfl, newCell 4 _ rfl, newCell 5 _ rfl, keepC hb9 p0, keepC hb9 p1, keepC hb9 r0, keepC hb9 r1, keepF hb9 p0 zp0, keepF hb9 p1 zp1, keepF hb9 r0 zr0, keepF hb9 r1 zr1, hB.trans (hb9.mono (by omega))⟩
      clear d0 d1 d2 d3 d4 d5 p0 p1 r0 r1 zp0 zp1 zr0 zr1 hB
      obtain ⟨y0, y1, y2, y3, y4, y5, p0, p1, r0, r1, zp0, zp1, zr0, zr1, hB⟩ := hc
      refine regionX 6 0 [] [] (by kernel_rfl) (by kernel_rfl) (by kernel_rfl) (by kernel_rfl) (by decide) (fun _ _ d _ _ h => by cases d <;> exact h) ?_
      intro R hR
      simp only [List.take_succ_cons, List.take_zero]
      iterate 6 (first | (refine headP_val ?_ (by rfl) (by rfl) (fun w' hw' => ?_) ?_; rotate_left; (focus (have y0 := keepC hw' y0; have y1 := keepC hw' y1; have y2 := keepC hw' y2; have y3 := keepC hw' y3; have y4 := keepC hw' y4; have y5 := keepC hw' y5; have y6 := keepC hw' p0; first | (refine onlyMakes_val ?_; first | (go_simp; done) | (go_simp; with_reducible rfl)) | (apply onlyMakes_call; (first | (go_simp; done) | (go_simp; exact ⟨rfl, rfl⟩) | (go_simp; with_reducible rfl)); first | (with_reducible exact leastVolume_any _ _ _ _ _ _ _)))); (try dsimp only); (try simp only [Act.put, List.setIfInBounds_toArray, List.set_cons_zero, List.set_cons_succ])) | (refine headP_pure ?_ (by rfl) (by rfl) (fun w' => ?_) ?_; rotate_left; (focus ((first | (go_simp; done) | (go_simp; with_reducible rfl)))); (try dsimp only); (try simp only [Act.put, List.setIfInBounds_toArray, List.set_cons_zero, List.set_cons_succ])) | (refine headP_skip (by rfl) ?_; (try dsimp only); (try simp only [Act.put, List.setIfInBounds_toArray, List.set_cons_zero, List.set_cons_succ])))
      refine headP_nil (hR.out _ ?_)
      refine AnyZ.last 6 (by kernel_rfl) (by decide) (fun w2 hw2 => ?_)
      refine wpAny_one 6 (by kernel_rfl) rfl rfl ?_
      have gp0 := keepC hw2 p0
      have gp1 := keepC hw2 p1
      have gr0 := keepC hw2 r0
      have gr1 := keepC hw2 r1
      have gzp0 := keepF hw2 p0 zp0
      have gzp1 := keepF hw2 p1 zp1
      have gzr0 := keepF hw2 r0 zr0
      have gzr1 := keepF hw2 r1 zr1
      have gy0 := keepC hw2 y0
      have gy1 := keepC hw2 y1
      have gy2 := keepC hw2 y2
      have gy3 := keepC hw2 y3
      have gy4 := keepC hw2 y4
      have gy5 := keepC hw2 y5
      have hsc : B0 + 1 < wc.heap.size := World.block_lt_of_cell? wc _ p0
      have hB2 := hB.trans (hw2.mono (by omega))
      clear hR hB hw2 y0 y1 y2 y3 y4 y5 p0 p1 r0 r1 zp0 zp1 zr0 zr1
      (try simp only [List.getElem_toArray, List.getElem_cons_succ, List.getElem_cons_zero])
      (try simp only [Act.put, List.setIfInBounds_toArray, List.set_cons_succ, List.set_cons_zero])
      unfold Oper.wp
      go_simp
      refine wpAny_done (by kernel_rfl) ?_
      go_upto_region 6 with fail
      have hB1w : BW ≠ B0 + 1 := by omega
      refine nameWorld (fun w' => w'.cell? ⟨BW, 0, none⟩ = some (.int .i64 x0) ∧ w'.cell? ⟨BW, 1, none⟩ = some (.int .i64 x1) ∧ w'.cell? ⟨BW, 2, none⟩ = some (.int .i64 x2) ∧ w'.cell? ⟨BW, 3, none⟩ = some (.int .i64 x3) ∧ w'.cell? ⟨BW, 4, none⟩ = some (.int .i64 x4) ∧ w'.cell? ⟨BW, 5, none⟩ = some (.int .i64 x5) ∧ w'.cell? ⟨B0 + 1, 0, none⟩ = some (.int .i64 (al + x0)) ∧ w'.cell? ⟨B0 + 1, 1, none⟩ = some (.int .i64 ah) ∧ w'.cell? ⟨B0, 0, none⟩ = some (.int .i64 0) ∧ w'.cell? ⟨B0, 1, none⟩ = some (.int .i64 0) ∧ w'.frozen? ⟨B0 + 1, 0, none⟩ = false ∧ w'.frozen? ⟨B0 + 1, 1, none⟩ = false ∧ w'.frozen? ⟨B0, 0, none⟩ = false ∧ w'.frozen? ⟨B0, 1, none⟩ = false ∧ Below B0 w w') ?_ (fun wc hc => ?_)
      · exact ⟨(World.cell?_setCell_other _ _ _ _ (by intro e; injection e; omega)).trans gy0, (World.cell?_setCell_other _ _ _ _ (by intro e; injection e; omega)).trans gy1, (World.cell?_setCell_other _ _ _ _ (by intro e; injection e; omega)).trans gy2, (World.cell?_setCell_other _ _ _ _ (by intro e; injection e; omega)).trans gy3, (World.cell?_setCell_other _ _ _ _ (by intro e; injection e; omega)).trans gy4, (World.cell?_setCell_other _ _ _ _ (by intro e; injection e; omega)).trans gy5, World.cell?_setCell_same _ _ _ gp0, by rw [setOff (by decide)]; exact gp1, (World.cell?_setCell_other _ _ _ _ (by intro e; cases e)).trans gr0, (World.cell?_setCell_other _ _ _ _ (by intro e; cases e)).trans gr1, by rw [World.frozen?_setCell]; exact gzp0, by rw [World.frozen?_setCell]; exact gzp1, by rw [World.frozen?_setCell]; exact gzr0, by rw [World.frozen?_setCell]; exact gzr1, hB2.setCell (by show B0 ≤ B0 + 1; omega) _⟩
      clear hB2 gy0 gy1 gy2 gy3 gy4 gy5 gp0 gzp0 gp1 gzp1 gr0 gzr0 gr1 gzr1
      obtain ⟨y0, y1, y2, y3, y4, y5, p0, p1, r0, r1, zp0, zp1, zr0, zr1, hB⟩ := hc
      refine regionX 6 0 [] [] (by kernel_rfl) (by kernel_rfl) (by kernel_rfl) (by kernel_rfl) (by decide) (fun _ _ d _ _ h => by cases d <;> exact h) ?_
      intro R hR
      simp only [List.take_succ_cons, List.take_zero]
      iterate 6 (first | (refine headP_val ?_ (by rfl) (by rfl) (fun w' hw' => ?_) ?_; rotate_left; (focus (have y0 := keepC hw' y0; have y1 := keepC hw' y1; have y2 := keepC hw' y2; have y3 := keepC hw' y3; have y4 := keepC hw' y4; have y5 := keepC hw' y5; have y6 := keepC hw' p1; first | (refine onlyMakes_val ?_; first | (go_simp; done) | (go_simp; with_reducible rfl)) | (apply onlyMakes_call; (first | (go_simp; done) | (go_simp; exact ⟨rfl, rfl⟩) | (go_simp; with_reducible rfl)); first | (with_reducible exact mostVolume_any _ _ _ _ _ _ _)))); (try dsimp only); (try simp only [Act.put, List.setIfInBounds_toArray, List.set_cons_zero, List.set_cons_succ])) | (refine headP_pure ?_ (by rfl) (by rfl) (fun w' => ?_) ?_; rotate_left; (focus ((first | (go_simp; done) | (go_simp; with_reducible rfl)))); (try dsimp only); (try simp only [Act.put, List.setIfInBounds_toArray, List.set_cons_zero, List.set_cons_succ])) | (refine headP_skip (by rfl) ?_; (try dsimp only); (try simp only [Act.put, List.setIfInBounds_toArray, List.set_cons_zero, List.set_cons_succ])))
      refine headP_nil (hR.out _ ?_)
      refine AnyZ.last 6 (by kernel_rfl) (by decide) (fun w2 hw2 => ?_)
      refine wpAny_one 6 (by kernel_rfl) rfl rfl ?_
      have gp0 := keepC hw2 p0
      have gp1 := keepC hw2 p1
      have gr0 := keepC hw2 r0
      have gr1 := keepC hw2 r1
      have gzp0 := keepF hw2 p0 zp0
      have gzp1 := keepF hw2 p1 zp1
      have gzr0 := keepF hw2 r0 zr0
      have gzr1 := keepF hw2 r1 zr1
      have gy0 := keepC hw2 y0
      have gy1 := keepC hw2 y1
      have gy2 := keepC hw2 y2
      have gy3 := keepC hw2 y3
      have gy4 := keepC hw2 y4
      have gy5 := keepC hw2 y5
      have hsc : B0 + 1 < wc.heap.size := World.block_lt_of_cell? wc _ p0
      have hB2 := hB.trans (hw2.mono (by omega))
      clear hR hB hw2 y0 y1 y2 y3 y4 y5 p1 p0 r0 r1 zp0 zp1 zr0 zr1
      (try simp only [List.getElem_toArray, List.getElem_cons_succ, List.getElem_cons_zero])
      (try simp only [Act.put, List.setIfInBounds_toArray, List.set_cons_succ, List.set_cons_zero])
      unfold Oper.wp
      go_simp
      refine wpAny_done (by kernel_rfl) ?_
      go_wp2_with fail
      go_roundw
      case rel =>
        exact ⟨j + 1, ⟨by omega, by first | rfl | go_num⟩, Lib.hid ⟨by rw [HLO.out, setOff (by decide)]; exact gp0, by rw [HHI.out]; exact World.cell?_setCell_same _ _ _ gp1, (World.cell?_setCell_other _ _ _ _ (by intro e; cases e)).trans gr0, (World.cell?_setCell_other _ _ _ _ (by intro e; cases e)).trans gr1, by rw [World.frozen?_setCell]; exact gzp0, by rw [World.frozen?_setCell]; exact gzp1, by rw [World.frozen?_setCell]; exact gzr0, by rw [World.frozen?_setCell]; exact gzr1, hB2.setCell (by show B0 ≤ B0 + 1; omega) _⟩⟩
      case measure => simp [intOf]; omega
    · have e : j = n := by omega
      subst e
      go_wp2_with fail
      obtain ⟨c0, c1⟩ := set2 r0 r1 (.int .i64 (vLo f j)) (.int .i64 (vHi f j))
      refine bodyPost_ret (v := .agg #[.int .i64 (vLo f j), .int .i64 (vHi f j)]) (by simp [results, Try.results32, go_sem, c0, c1]) rfl ⟨rfl, ?_⟩
      rw [hB0]
      exact (hB.setCell (by show B0 ≤ B0; omega) _).setCell (by show B0 ≤ B0; omega) _
end Go.Proofs.Ytbijhcoloajjaaa
