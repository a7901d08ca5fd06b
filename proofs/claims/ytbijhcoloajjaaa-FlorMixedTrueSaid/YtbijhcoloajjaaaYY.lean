import Derived.Test.YtbijhcoloajjaaaZD
import Derived.Test.YtbijhcoloajjaaaU2
import Derived.Test.YtbijhcoloajjaaaTT
import Derived.Test.YtbijhcoloajjaaaZ9
import Derived.Test.YtbijhcoloajjaaaR4
import Derived.Test.YtbijhcoloajjaaaQQ
import Derived.Deep.AppendLies
import Derived.OwnWalk
import Derived.Laws.OwnMore
/- What the least and the greatest mean of choices are: bounds, members; a mixture of right wines is right. -/
namespace Go.Proofs.Ytbijhcoloajjaaa
open Go.RowKit

theorem loS_fold_ge {f : Nat → Wn} {g : Wn → Int} {n : Nat} {T : Int} : ∀ (l : List Nat) (a : Int), T ≤ a → (∀ c, c ∈ l → T ≤ fl (sumC f g c n) (totC f c n)) → T ≤ l.foldl (loS f g n) a
  | [], a, ha, _ => ha
  | c :: l, a, ha, h => loS_fold_ge l _ (by have := h c (by simp); unfold loS; omega) (fun d hd => h d (by simp [hd]))
theorem hiS_fold_le {f : Nat → Wn} {g : Wn → Int} {n : Nat} {T : Int} : ∀ (l : List Nat) (a : Int), a ≤ T → (∀ c, c ∈ l → ce (sumC f g c n) (totC f c n) ≤ T) → l.foldl (hiS f g n) a ≤ T
  | [], a, ha, _ => ha
  | c :: l, a, ha, h => hiS_fold_le l _ (by have := h c (by simp); unfold hiS; omega) (fun d hd => h d (by simp [hd]))
theorem loS_fold_start {f : Nat → Wn} {g : Wn → Int} {n : Nat} : ∀ (l : List Nat) (a : Int), l.foldl (loS f g n) a ≤ a
  | [], a => Int.le_refl _
  | c :: l, a => Int.le_trans (loS_fold_start l _) (by unfold loS; omega)
theorem hiS_fold_start {f : Nat → Wn} {g : Wn → Int} {n : Nat} : ∀ (l : List Nat) (a : Int), a ≤ l.foldl (hiS f g n) a
  | [], a => Int.le_refl _
  | c :: l, a => Int.le_trans (by unfold hiS; omega) (hiS_fold_start l _)
theorem loS_fold_mem {f : Nat → Wn} {g : Wn → Int} {n : Nat} : ∀ (l : List Nat) (a : Int) (c : Nat), c ∈ l → l.foldl (loS f g n) a ≤ fl (sumC f g c n) (totC f c n)
  | d :: l, a, c, h => by
    rcases List.mem_cons.1 h with rfl | h
    · exact Int.le_trans (loS_fold_start l _) (by unfold loS; omega)
    · exact loS_fold_mem l _ c h
theorem hiS_fold_mem {f : Nat → Wn} {g : Wn → Int} {n : Nat} : ∀ (l : List Nat) (a : Int) (c : Nat), c ∈ l → ce (sumC f g c n) (totC f c n) ≤ l.foldl (hiS f g n) a
  | d :: l, a, c, h => by
    rcases List.mem_cons.1 h with rfl | h
    · exact Int.le_trans (by unfold hiS; omega) (hiS_fold_start l _)
    · exact hiS_fold_mem l _ c h
theorem mem_choices {f : Nat → Wn} {n m c : Nat} : c ∈ choices f n m ↔ c < m ∧ 0 < totC f c n := by
  unfold choices
  rw [List.mem_filter, List.mem_range]
  simp
theorem sum_ge {f : Nat → Wn} {g : Wn → Int} {n : Nat} {T : Int} (hv : ∀ i, i < n → (f i).err = 0) (c : Nat) : ∀ m, m ≤ n → (∀ i, i < m → T ≤ g (f i)) → T * totC f c m ≤ sumC f g c m
  | 0, _, _ => by simp [totC, sumC]
  | m + 1, h, hg => by
    have h1 := sum_ge hv c m (by omega) (fun i hi => hg i (by omega))
    have h2 := volC_bd hv c (i := m) (by omega)
    have h3 : volC f c m * T ≤ volC f c m * g (f m) := Int.mul_le_mul_of_nonneg_left (hg m (by omega)) h2.1
    rw [totC, sumC, Int.mul_add, Int.mul_comm T (volC f c m)]
    omega
theorem sum_le {f : Nat → Wn} {g : Wn → Int} {n : Nat} {T : Int} (hv : ∀ i, i < n → (f i).err = 0) (c : Nat) : ∀ m, m ≤ n → (∀ i, i < m → g (f i) ≤ T) → sumC f g c m ≤ T * totC f c m
  | 0, _, _ => by simp [totC, sumC]
  | m + 1, h, hg => by
    have h1 := sum_le hv c m (by omega) (fun i hi => hg i (by omega))
    have h2 := volC_bd hv c (i := m) (by omega)
    have h3 : volC f c m * g (f m) ≤ volC f c m * T := Int.mul_le_mul_of_nonneg_left (hg m (by omega)) h2.1
    rw [totC, sumC, Int.mul_add, Int.mul_comm T (volC f c m)]
    omega
theorem sum_mono {f : Nat → Wn} {g k : Wn → Int} {n : Nat} (hv : ∀ i, i < n → (f i).err = 0) (c : Nat) : ∀ m, m ≤ n → (∀ i, i < m → g (f i) ≤ k (f i)) → sumC f g c m ≤ sumC f k c m
  | 0, _, _ => by simp [sumC]
  | m + 1, h, hg => by
    have h1 := sum_mono hv c m (by omega) (fun i hi => hg i (by omega))
    have h2 := volC_bd hv c (i := m) (by omega)
    have h3 : volC f c m * g (f m) ≤ volC f c m * k (f m) := Int.mul_le_mul_of_nonneg_left (hg m (by omega)) h2.1
    rw [sumC, sumC]
    omega
/-- the choice of all greatest ends -/
theorem top_bit (n i : Nat) (h : i < n) : (2 ^ n - 1) / 2 ^ i % 2 = 1 := by
  have h1 := Nat.testBit_two_pow_sub_one n i
  rw [Nat.testBit_eq_decide_div_mod_eq] at h1
  simpa [h] using h1
theorem top_tot (f : Nat → Wn) (n : Nat) : ∀ m, m ≤ n → totC f (2 ^ n - 1) m = vHi f m
  | 0, _ => rfl
  | m + 1, h => by rw [totC, vHi, top_tot f n m (by omega), volC, if_neg (by rw [top_bit n m (by omega)]; decide)]
theorem top_mem {f : Nat → Wn} {n : Nat} (h : 0 < vHi f n) : 2 ^ n - 1 ∈ choices f n (2 ^ n) := by
  have := Nat.two_pow_pos n
  exact mem_choices.2 ⟨by omega, by rw [top_tot f n n (Nat.le_refl _)]; exact h⟩
theorem mixV_zero {f : Nat → Wn} {n : Nat} : mixV f n = 0 ↔ 0 < vHi f n ∧ vHi f n ≤ 100000 := by
  unfold mixV unlE firstE
  by_cases h1 : 0 < vHi f n <;> by_cases h2 : vHi f n ≤ 100000 <;> simp [h1, h2]
theorem mixV_cases (f : Nat → Wn) (n : Nat) : mixV f n = 0 ∨ mixV f n = 8 ∨ mixV f n = 25 := by
  unfold mixV unlE firstE
  by_cases h1 : 0 < vHi f n <;> by_cases h2 : vHi f n ≤ 100000 <;> simp [h1, h2]
theorem mixB_zero {f : Nat → Wn} : ∀ (m k : Nat), (∀ j, k ≤ j → j < k + m → (f j).err = 0) → mixB f m k = 0
  | 0, _, _ => rfl
  | m + 1, k, h => by
    rw [mixB, if_pos (h k (by omega) (by omega))]
    exact mixB_zero m (k + 1) fun j h1 h2 => h j (by omega) (by omega)
/-- the ends of means lie where all ends of values do -/
theorem means_in {f : Nat → Wn} {g k : Wn → Int} {n : Nat} {T : Int} (hv : ∀ i, i < n → (f i).err = 0) (hg : ∀ i, i < n → 0 ≤ g (f i) ∧ g (f i) ≤ k (f i) ∧ k (f i) ≤ T) (hT : 0 ≤ T) (hp : 0 < vHi f n) :
    0 ≤ loF f g n (choices f n (2 ^ n)) ∧ loF f g n (choices f n (2 ^ n)) ≤ hiF f k n (choices f n (2 ^ n)) ∧ hiF f k n (choices f n (2 ^ n)) ≤ T := by
  refine ⟨?_, ?_, ?_⟩
  · refine loS_fold_ge _ _ (by decide) fun c hc => ?_
    obtain ⟨-, hpos⟩ := mem_choices.1 hc
    have := sum_ge (T := 0) hv c n (Nat.le_refl _) (fun i hi => (hg i hi).1)
    exact Int.ediv_nonneg (by omega) (by omega)
  · have hm := top_mem hp
    obtain ⟨-, hpos⟩ := mem_choices.1 hm
    have h1 := loS_fold_mem (f := f) (g := g) (n := n) _ 9223372036854775807 _ hm
    have h2 := hiS_fold_mem (f := f) (g := k) (n := n) _ 0 _ hm
    have h3 := sum_mono (g := g) (k := k) hv (2 ^ n - 1) n (Nat.le_refl _) (fun i hi => (hg i hi).2.1)
    have h4 := sum_ge (T := 0) (g := k) hv (2 ^ n - 1) n (Nat.le_refl _) (fun i hi => by have := hg i hi; omega)
    have h5 := fl_le_ce (n := sumC f g (2 ^ n - 1) n) (m := sumC f k (2 ^ n - 1) n) hpos (Int.le_refl _) h3 (by omega)
    exact Int.le_trans h1 (Int.le_trans h5 h2)
  · refine hiS_fold_le _ _ hT fun c hc => ?_
    obtain ⟨-, hpos⟩ := mem_choices.1 hc
    exact ce_le hpos (sum_le (T := T) hv c n (Nat.le_refl _) (fun i hi => (hg i hi).2.2))
theorem mixW_right {f : Nat → Wn} {n : Nat} (hv : ∀ i, i < n → (f i).err = 0) (h : mixV f n = 0) : (mixW f n).err = 0 := by
  obtain ⟨hp, hm⟩ := mixV_zero.1 h
  have hb := vLo_bd hv n (Nat.le_refl _)
  have hs := means_in (g := Wn.s0) (k := Wn.s1) (T := 10000) hv (fun i hi => by obtain ⟨⟨_, _, _⟩, ⟨_, _, _⟩, ⟨_, _, _⟩⟩ := wineE_zero.1 (hv i hi); omega) (by decide) hp
  have hc := means_in (g := Wn.c0) (k := Wn.c1) (T := 100000) hv (fun i hi => by obtain ⟨⟨_, _, _⟩, ⟨_, _, _⟩, ⟨_, _, _⟩⟩ := wineE_zero.1 (hv i hi); omega) (by decide) hp
  exact wineE_zero.2 ⟨⟨hb.1, hb.2.1, hm⟩, hs, hc⟩
theorem spW_right {vo st : Int} (h0 : 0 ≤ vo) (h1 : vo ≤ 100000) (h2 : 0 ≤ st) (h3 : st ≤ 10000) : (spW vo st).err = 0 :=
  wineE_zero.2 ⟨⟨h0, Int.le_refl _, h1⟩, ⟨h2, Int.le_refl _, h3⟩, ⟨Int.le_refl _, Int.le_refl _, by show (0 : Int) ≤ 100000; decide⟩⟩
theorem two_right {x y : Wn} (hx : x.err = 0) (hy : y.err = 0) : ∀ i, i < 2 → (twoW x y i).err = 0
  | 0, _ => hx
  | 1, _ => hy
/-- so much spirit is enough at either end of the volume -/
theorem nd_enough {v v1 s st tg : Int} (h0 : 0 ≤ v) (h1 : v ≤ v1) (ht : tg < st) : tg * (v + ndE v1 s st tg) ≤ v * s + ndE v1 s st tg * st := by
  unfold ndE
  split
  · rename_i h
    have := Int.mul_le_mul_of_nonneg_left h h0
    rw [Int.add_zero, Int.zero_mul, Int.add_zero, Int.mul_comm tg v]
    exact this
  · rename_i h
    have h2 := ce_mul (v1 * (tg - s)) (st - tg) (by omega)
    generalize ce (v1 * (tg - s)) (st - tg) = N at *
    have h3 : v * (tg - s) ≤ v1 * (tg - s) := Int.mul_le_mul_of_nonneg_right h1 (by omega)
    have e1 : v * (tg - s) = v * tg - v * s := Int.mul_sub _ _ _
    have e2 : N * (st - tg) = N * st - N * tg := Int.mul_sub _ _ _
    rw [Int.mul_add, Int.mul_comm tg v, Int.mul_comm tg N]
    omega
theorem nd_nonneg {v1 s st tg : Int} (h0 : 0 ≤ v1) (ht : tg < st) : 0 ≤ ndE v1 s st tg := by
  unfold ndE
  split
  · exact Int.le_refl _
  · have : 0 ≤ v1 * (tg - s) := Int.mul_nonneg h0 (by omega)
    have := ce_at_least (n := v1 * (tg - s)) (d := st - tg) (m := 0) (by omega) (by omega)
    exact this
/-- the least strength of a wine that is fortified with enough spirit -/
theorem fort_strong {y : Wn} {st tg : Int} (hy : y.err = 0) (h2 : st ≤ 10000) (ht : tg < st) :
    tg ≤ loF (twoW y (spW (ndE y.v1 y.s0 st tg) st)) Wn.s0 2 (choices (twoW y (spW (ndE y.v1 y.s0 st tg) st)) 2 (2 ^ 2)) := by
  obtain ⟨⟨R0, R1, R2⟩, -, -⟩ := wineE_zero.1 hy
  refine loS_fold_ge _ _ (by omega) fun c hc => ?_
  obtain ⟨-, hpos⟩ := mem_choices.1 hc
  have e1 : totC (twoW y (spW (ndE y.v1 y.s0 st tg) st)) c 2 = volC (twoW y (spW (ndE y.v1 y.s0 st tg) st)) c 0 + ndE y.v1 y.s0 st tg := by
    have : volC (twoW y (spW (ndE y.v1 y.s0 st tg) st)) c 1 = ndE y.v1 y.s0 st tg := by unfold volC; split <;> rfl
    rw [totC, totC, totC, this]; omega
  have e2 : sumC (twoW y (spW (ndE y.v1 y.s0 st tg) st)) Wn.s0 c 2 = volC (twoW y (spW (ndE y.v1 y.s0 st tg) st)) c 0 * y.s0 + ndE y.v1 y.s0 st tg * st := by
    have : volC (twoW y (spW (ndE y.v1 y.s0 st tg) st)) c 1 = ndE y.v1 y.s0 st tg := by unfold volC; split <;> rfl
    rw [sumC, sumC, sumC, this]
    show 0 + _ * y.s0 + _ * st = _
    omega
  rw [e1] at hpos
  rw [e1, e2]
  have hv : 0 ≤ volC (twoW y (spW (ndE y.v1 y.s0 st tg) st)) c 0 ∧ volC (twoW y (spW (ndE y.v1 y.s0 st tg) st)) c 0 ≤ y.v1 := by
    unfold volC
    split
    · exact ⟨R0, R1⟩
    · exact ⟨Int.le_trans R0 R1, Int.le_refl _⟩
  exact Int.le_ediv_of_mul_le hpos (nd_enough hv.1 hv.2 ht)
end Go.Proofs.Ytbijhcoloajjaaa

/- The reference's mean: the least and the greatest mean, over all choices of ends. -/
namespace Go.Proofs.Ytbijhcoloajjaaa
open Go.RowKit

theorem choices_nil_lo {f : Nat → Wn} {g : Wn → Int} {n c : Nat} (h : choices f n c = []) (hp : 0 < totC f c n) (hf : fl (sumC f g c n) (totC f c n) ≤ 9223372036854775807) : loF f g n (choices f n (c + 1)) = fl (sumC f g c n) (totC f c n) := by
  rw [choices_succ, h, if_pos hp]
  show min 9223372036854775807 (fl (sumC f g c n) (totC f c n)) = _
  omega
theorem choices_nil_hi {f : Nat → Wn} {g : Wn → Int} {n c : Nat} (h : choices f n c = []) (hp : 0 < totC f c n) (hf : 0 ≤ ce (sumC f g c n) (totC f c n)) : hiF f g n (choices f n (c + 1)) = ce (sumC f g c n) (totC f c n) := by
  rw [choices_succ, h, if_pos hp]
  show max 0 (ce (sumC f g c n) (totC f c n)) = _
  omega
set_option linter.unusedVariables false in
set_option linter.unusedSimpArgs false in
set_option maxRecDepth 100000 in
set_option maxHeartbeats 8000000 in
theorem rmean_any (f : Nat → Wn) (g k : Wn → Int) (bv ov cv bg og cg n : Nat) (w : World) (hn0 : 0 < n) (hn : n ≤ 8) (hv : ∀ i, i < n → (f i).err = 0) (hg : ∀ i, i < n → 0 ≤ g (f i) ∧ g (f i) ≤ 100000) (hk : ∀ i, i < n → 0 ≤ k (f i) ∧ k (f i) ≤ 100000)
    (hV : ∀ i, i < n → w.cell? ⟨bv, ov + i * 2, none⟩ = some (.int .i64 (f i).v0) ∧ w.cell? ⟨bv, ov + i * 2 + 1, none⟩ = some (.int .i64 (f i).v1))
    (hG : ∀ i, i < n → w.cell? ⟨bg, og + i * 2, none⟩ = some (.int .i64 (g (f i))) ∧ w.cell? ⟨bg, og + i * 2 + 1, none⟩ = some (.int .i64 (k (f i)))) (hp : 0 < vHi f n) :
    Calls Try.prog 38 #[.slice (some ⟨bv, ov, none⟩) n cv, .slice (some ⟨bg, og, none⟩) n cg] w fun e w' => e = .returned (.agg #[.int .i64 (loF f g n (choices f n (2 ^ n))), .int .i64 (hiF f k n (choices f n (2 ^ n)))]) ∧ Below w.heap.size w w' := by
  have HV := Lib.hid hv
  have HG := Lib.hid (And.intro hg hk)
  have HVC := Lib.hid hV
  have HGC := Lib.hid hG
  have HP := Lib.hid hp
  clear hv hg hk hV hG hp
  have hn1 : (0 : Int) < (n : Int) := by omega
  have hn2 : (n : Int) ≤ 8 := by omega
  have HN0 := Lib.hid hn0
  go_enter Try.func38, Try.ntmps38
  go_wp2_with fail
  obtain ⟨B0, hB0⟩ : ∃ B, w.heap.size = B := ⟨_, rfl⟩
  rw [hB0]
  refine nameWorld (fun w' => w'.cell? ⟨B0, 0, none⟩ = some (.int .i64 0) ∧ w'.cell? ⟨B0, 1, none⟩ = some (.int .i64 0) ∧ w'.frozen? ⟨B0, 0, none⟩ = false ∧ w'.frozen? ⟨B0, 1, none⟩ = false ∧ w'.cell? ⟨B0 + 1, 0, none⟩ = some (.int .i64 0) ∧ w'.cell? ⟨B0 + 1, 1, none⟩ = some (.int .i64 0) ∧ w'.frozen? ⟨B0 + 1, 0, none⟩ = false ∧ w'.frozen? ⟨B0 + 1, 1, none⟩ = false ∧ Below B0 w w') ?_ (fun wa ha => ?_)
  · rw [← hB0]
    have ha := (Below.refl _ (w.alloc (.cells #[.int .i64 0, .int .i64 0] 25))).alloc (Nat.le_refl _) (.cells #[.int .i64 0, .int .i64 0] 25)
    exact ⟨(newBoth rfl ha 0 _ rfl).1, (newBoth rfl ha 1 _ rfl).1, (newBoth rfl ha 0 _ rfl).2, (newBoth rfl ha 1 _ rfl).2, (newBoth (by rw [World.size_alloc]) (Below.refl _ _) 0 _ rfl).1, (newBoth (by rw [World.size_alloc]) (Below.refl _ _) 1 _ rfl).1, (newBoth (by rw [World.size_alloc]) (Below.refl _ _) 0 _ rfl).2, (newBoth (by rw [World.size_alloc]) (Below.refl _ _) 1 _ rfl).2, by go_grown⟩
  obtain ⟨r0, r1, rz0, rz1, p0, p1, z0, z1, hB⟩ := ha
  go_loopw [8, 7] (fun i t wr => ∃ j : Nat, (j ≤ n ∧ i = .int .i64 j ∧ t = .int .i64 ((2 ^ j : Nat) : Int)) ∧ wr = wa)
    (fun i _ _ => n - (intOf i).toNat)
  case atStart => exact ⟨0, ⟨Nat.zero_le _, rfl, rfl⟩, rfl⟩
  case round =>
    obtain ⟨j, ⟨hj, rfl, rfl⟩, rfl⟩ := hrel
    by_cases hlt : j < n
    · have hk1 : (j : Int) < (n : Int) := by omega
      have hk0 : (0 : Int) ≤ (j : Int) := by omega
      obtain ⟨T, hT⟩ : ∃ T, 2 ^ j = T := ⟨_, rfl⟩
      have hT3 : T ≤ 256 := by subst hT; exact Nat.pow_le_pow_right (n := 2) (j := 8) (by decide) (by omega)
      have HT := Lib.hid hT
      rw [hT]
      clear hT
      go_wp2_with fail
      go_roundw
      case rel => exact ⟨j + 1, ⟨by omega, by first | rfl | go_num, by rw [Nat.pow_succ, HT.out, Nat.mul_comm]; rfl⟩, by first | trivial | rfl⟩
      case measure => simp [intOf]; omega
    · have e : j = n := by omega
      subst e
      obtain ⟨T, hT⟩ : ∃ T, 2 ^ j = T := ⟨_, rfl⟩
      have hT3 : T ≤ 256 := by subst hT; exact Nat.pow_le_pow_right (n := 2) (j := 8) (by decide) (by omega)
      have HT := Lib.hid hT
      rw [hT]
      clear hT
      go_wp2_with fail
      go_loopw [9, 6] (fun i nb wy => ∃ (c : Nat) (bb : Bool) (ol oh : Int), (c ≤ T ∧ i = .int .i64 c ∧ nb = .bool bb) ∧ Hid ((choices f j c = [] ∧ bb = true) ∨ (choices f j c ≠ [] ∧ bb = false ∧ ol = loF f g j (choices f j c) ∧ oh = hiF f k j (choices f j c))) ∧ wy.cell? ⟨B0, 0, none⟩ = some (.int .i64 0) ∧ wy.cell? ⟨B0, 1, none⟩ = some (.int .i64 0) ∧ wy.frozen? ⟨B0, 0, none⟩ = false ∧ wy.frozen? ⟨B0, 1, none⟩ = false ∧ wy.cell? ⟨B0 + 1, 0, none⟩ = some (.int .i64 ol) ∧ wy.cell? ⟨B0 + 1, 1, none⟩ = some (.int .i64 oh) ∧ wy.frozen? ⟨B0 + 1, 0, none⟩ = false ∧ wy.frozen? ⟨B0 + 1, 1, none⟩ = false ∧ Below B0 w wy)
        (fun i _ _ => T - (intOf i).toNat)
      case atStart => exact ⟨0, true, 0, 0, ⟨Nat.zero_le _, rfl, rfl⟩, Lib.hid (.inl ⟨rfl, rfl⟩), r0, r1, rz0, rz1, p0, p1, z0, z1, hB⟩
      case round =>
        clear r0 r1 rz0 rz1 p0 p1 z0 z1 hB
        obtain ⟨c, bb, ol, oh, ⟨hc, rfl, rfl⟩, HO, r0, r1, rz0, rz1, p0, p1, z0, z1, hB⟩ := hrel
        rename World => wo
        have hso : B0 + 1 < wo.heap.size := World.block_lt_of_cell? wo _ p0
        by_cases hlc : c < T
        · have hc1 : (c : Int) < (T : Int) := by omega
          have hc0 : (0 : Int) ≤ (c : Int) := by omega
          go_wp2_with fail
          go_loopw [14, 10, 11, 12, 13] (fun i al lo hi rs wy => ∃ m : Nat, (m ≤ j ∧ i = .int .i64 m ∧ al = .int .i64 (totC f c m) ∧ lo = .int .i64 (sumC f g c m) ∧ hi = .int .i64 (sumC f k c m) ∧ rs = .int .i64 ((c / 2 ^ m : Nat) : Int)) ∧ Hid (Below wo.heap.size wo wy))
            (fun i _ _ _ _ _ => j - (intOf i).toNat)
          case atStart => exact ⟨0, ⟨Nat.zero_le _, rfl, rfl, rfl, rfl, by rw [Nat.pow_zero, Nat.div_one]⟩, Lib.hid (Below.refl _ _)⟩
          case round =>
            obtain ⟨m, ⟨hm, rfl, rfl, rfl, rfl, rfl⟩, HB⟩ := hrel
            by_cases hlm : m < j
            · have hm1 : (m : Int) < (j : Int) := by omega
              have hm0 : (0 : Int) ≤ (m : Int) := by omega
              obtain ⟨q, hq⟩ : ∃ q, c / 2 ^ m = q := ⟨_, rfl⟩
              have hq2 : q ≤ 256 := by rw [← hq]; exact Nat.le_trans (Nat.div_le_self _ _) (by omega)
              have hq3 : c / 2 ^ (m + 1) = q / 2 := by rw [Nat.pow_succ, ← Nat.div_div_eq_div_mul, hq]
              rw [hq]
              have hBw : Below w.heap.size w wr := by rw [hB0]; exact hB.trans (HB.out.mono (by omega))
              have d0 := keepC hBw (HVC.out m hlm).1
              have d1 := keepC hBw (HVC.out m hlm).2
              have e0 := keepC hBw (HGC.out m hlm).1
              have e1 := keepC hBw (HGC.out m hlm).2
              obtain ⟨x0, hx0⟩ : ∃ x, (f m).v0 = x := ⟨_, rfl⟩
              obtain ⟨x1, hx1⟩ : ∃ x, (f m).v1 = x := ⟨_, rfl⟩
              obtain ⟨y0, hy0⟩ : ∃ x, g (f m) = x := ⟨_, rfl⟩
              obtain ⟨y1, hy1⟩ : ∃ x, k (f m) = x := ⟨_, rfl⟩
              obtain ⟨G0, G1⟩ := HG.out.1 m hlm
              obtain ⟨K0, K1⟩ := HG.out.2 m hlm
              rw [hx0] at d0
              rw [hx1] at d1
              rw [hy0] at e0 G0 G1
              rw [hy1] at e1 K0 K1
              obtain ⟨tt, htt⟩ : ∃ t, totC f c m = t := ⟨_, rfl⟩
              have htb : 0 ≤ tt ∧ tt ≤ 800000 := by have := totC_bd HV.out c m (by omega); rw [htt] at this; omega
              obtain ⟨ll, hll⟩ : ∃ t, sumC f g c m = t := ⟨_, rfl⟩
              have hlb : 0 ≤ ll ∧ ll ≤ 80000000000 := by have := sumC_bd (g := g) HV.out HG.out.1 c m (by omega); rw [hll] at this; omega
              obtain ⟨hh, hhh⟩ : ∃ t, sumC f k c m = t := ⟨_, rfl⟩
              have hhb : 0 ≤ hh ∧ hh ≤ 80000000000 := by have := sumC_bd (g := k) HV.out HG.out.2 c m (by omega); rw [hhh] at this; omega
              obtain ⟨vv, hvv⟩ : ∃ v, volC f c m = v := ⟨_, rfl⟩
              have hvb : 0 ≤ vv ∧ vv ≤ 100000 := hvv ▸ volC_bd HV.out c hlm
              obtain ⟨a0, a1⟩ := mul_bd vv y0 100000 100000 hvb.1 hvb.2 G0 G1
              obtain ⟨b0, b1⟩ := mul_bd vv y1 100000 100000 hvb.1 hvb.2 K0 K1
              rw [htt, hll, hhh]
              have HT2 := Lib.hid (And.intro htt hvv)
              have HLL := Lib.hid (And.intro hll hy0)
              have HHH := Lib.hid (And.intro hhh hy1)
              have HQ3 := Lib.hid hq3
              have u0 : IntKind.i64.wrap (vv * y0) = vv * y0 := IntWalk.i64_in _ (by omega)
              have u1 : IntKind.i64.wrap (ll + vv * y0) = ll + vv * y0 := IntWalk.i64_in _ (by omega)
              have u2 : IntKind.i64.wrap (vv * y1) = vv * y1 := IntWalk.i64_in _ (by omega)
              have u3 : IntKind.i64.wrap (hh + vv * y1) = hh + vv * y1 := IntWalk.i64_in _ (by omega)
              have u4 : IntKind.i64.wrap (tt + vv) = tt + vv := IntWalk.i64_in _ (by omega)
              clear htt hll hhh hy0 hy1 hq3 hBw
              by_cases hbit : q % 2 = 1
              · have hv : vv = x1 := by rw [← hvv, volC, if_neg (by rw [hq]; omega), hx1]
                have hbt : (q : Int) % 2 = 1 := by omega
                clear hvv hq hbit
                subst hv
                go_wp2_with fail
                refine regionX 24 0 [] [] (by kernel_rfl) (by kernel_rfl) (by kernel_rfl) (by kernel_rfl) (by decide) (fun _ _ d _ _ h => by cases d <;> exact h) ?_
                intro R hR
                simp only [List.take_succ_cons, List.take_zero]
                iterate 24 (first | (refine headP_val ?_ (by rfl) (by rfl) (fun w' hw' => ?_) ?_; rotate_left; (focus (have y0 := keepC hw' e0; have y1 := keepC hw' e1; first | (refine onlyMakes_val ?_; first | (go_simp; done) | (go_simp; with_reducible rfl)) | fail)); (try dsimp only); (try simp only [Act.put, List.setIfInBounds_toArray, List.set_cons_zero, List.set_cons_succ])) | (refine headP_pure ?_ (by rfl) (by rfl) (fun w' => ?_) ?_; rotate_left; (focus ((first | (go_simp; done) | (go_simp; with_reducible rfl)))); (try dsimp only); (try simp only [Act.put, List.setIfInBounds_toArray, List.set_cons_zero, List.set_cons_succ])) | (refine headP_skip (by rfl) ?_; (try dsimp only); (try simp only [Act.put, List.setIfInBounds_toArray, List.set_cons_zero, List.set_cons_succ])))
                refine headP_nil (hR.out _ ?_)
                intro w3 hw3
                refine wpAny_done (by kernel_rfl) ?_
                have hB4 := belowSeq hw3 HB.out
                clear hR hw3 d0 d1 e0 e1
                go_wp2_with fail
                go_roundw
                case rel => exact ⟨m + 1, ⟨by omega, by first | rfl | go_num, by rw [totC, HT2.out.1, HT2.out.2], by rw [sumC, HLL.out.1, HLL.out.2, HT2.out.2], by rw [sumC, HHH.out.1, HHH.out.2, HT2.out.2], congrArg (Value.int .i64) (by rw [HQ3.out]; omega)⟩, Lib.hid hB4⟩
                case measure => simp [intOf]; omega
              · have hv : vv = x0 := by rw [← hvv, volC, if_pos (by rw [hq]; omega), hx0]
                have hbt : ¬ (q : Int) % 2 = 1 := by omega
                clear hvv hq hbit
                subst hv
                go_wp2_with fail
                refine regionX 24 0 [] [] (by kernel_rfl) (by kernel_rfl) (by kernel_rfl) (by kernel_rfl) (by decide) (fun _ _ d _ _ h => by cases d <;> exact h) ?_
                intro R hR
                simp only [List.take_succ_cons, List.take_zero]
                iterate 24 (first | (refine headP_val ?_ (by rfl) (by rfl) (fun w' hw' => ?_) ?_; rotate_left; (focus (have y0 := keepC hw' e0; have y1 := keepC hw' e1; first | (refine onlyMakes_val ?_; first | (go_simp; done) | (go_simp; with_reducible rfl)) | fail)); (try dsimp only); (try simp only [Act.put, List.setIfInBounds_toArray, List.set_cons_zero, List.set_cons_succ])) | (refine headP_pure ?_ (by rfl) (by rfl) (fun w' => ?_) ?_; rotate_left; (focus ((first | (go_simp; done) | (go_simp; with_reducible rfl)))); (try dsimp only); (try simp only [Act.put, List.setIfInBounds_toArray, List.set_cons_zero, List.set_cons_succ])) | (refine headP_skip (by rfl) ?_; (try dsimp only); (try simp only [Act.put, List.setIfInBounds_toArray, List.set_cons_zero, List.set_cons_succ])))
                refine headP_nil (hR.out _ ?_)
                intro w3 hw3
                refine wpAny_done (by kernel_rfl) ?_
                have hB4 := belowSeq hw3 HB.out
                clear hR hw3 d0 d1 e0 e1
                go_wp2_with fail
                go_roundw
                case rel => exact ⟨m + 1, ⟨by omega, by first | rfl | go_num, by rw [totC, HT2.out.1, HT2.out.2], by rw [sumC, HLL.out.1, HLL.out.2, HT2.out.2], by rw [sumC, HHH.out.1, HHH.out.2, HT2.out.2], congrArg (Value.int .i64) (by rw [HQ3.out]; omega)⟩, Lib.hid hB4⟩
                case measure => simp [intOf]; omega
            · have e : m = j := by omega
              subst e
              obtain ⟨tt, htt⟩ : ∃ t, totC f c m = t := ⟨_, rfl⟩
              have htb : 0 ≤ tt ∧ tt ≤ 800000 := by have := totC_bd HV.out c m (by omega); rw [htt] at this; omega
              obtain ⟨ll, hll⟩ : ∃ t, sumC f g c m = t := ⟨_, rfl⟩
              have hlb : 0 ≤ ll ∧ ll ≤ 80000000000 := by have := sumC_bd (g := g) HV.out HG.out.1 c m (by omega); rw [hll] at this; omega
              obtain ⟨hh, hhh⟩ : ∃ t, sumC f k c m = t := ⟨_, rfl⟩
              have hhb : 0 ≤ hh ∧ hh ≤ 80000000000 := by have := sumC_bd (g := k) HV.out HG.out.2 c m (by omega); rw [hhh] at this; omega
              rw [htt, hll, hhh]
              have HT2 := Lib.hid htt
              have HLL := Lib.hid hll
              have HHH := Lib.hid hhh
              clear htt hll hhh
              have hb9 := HB.out
              refine nameWorld (fun w' => w'.cell? ⟨B0, 0, none⟩ = some (.int .i64 0) ∧ w'.cell? ⟨B0, 1, none⟩ = some (.int .i64 0) ∧ w'.frozen? ⟨B0, 0, none⟩ = false ∧ w'.frozen? ⟨B0, 1, none⟩ = false ∧ w'.cell? ⟨B0 + 1, 0, none⟩ = some (.int .i64 ol) ∧ w'.cell? ⟨B0 + 1, 1, none⟩ = some (.int .i64 oh) ∧ w'.frozen? ⟨B0 + 1, 0, none⟩ = false ∧ w'.frozen? ⟨B0 + 1, 1, none⟩ = false ∧ Below B0 w w') ⟨keepC hb9 r0, keepC hb9 r1, keepF hb9 r0 rz0, keepF hb9 r1 rz1, keepC hb9 p0, keepC hb9 p1, keepF hb9 p0 z0, keepF hb9 p1 z1, hB.trans (hb9.mono (by omega))⟩ (fun wb hwb => ?_)
              clear hb9 HB hso r0 r1 rz0 rz1 p0 p1 z0 z1 hB
              obtain ⟨r0, r1, rz0, rz1, p0, p1, z0, z1, hB⟩ := hwb
              have hso : B0 + 1 < wb.heap.size := World.block_lt_of_cell? wb _ p0
              by_cases hz : tt = 0
              · have HC1 : Hid (choices f m (c + 1) = choices f m c) := Lib.hid (by rw [choices_succ, if_neg (by rw [HT2.out, hz]; decide), List.append_nil])
                have hzb : (tt == 0) = true := by rw [hz]; rfl
                clear htb hlb hhb
                go_wp2_with fail
                go_roundw
                case rel => exact ⟨c + 1, bb, ol, oh, ⟨by omega, by first | rfl | go_num, rfl⟩, Lib.hid (by rw [HC1.out]; exact HO.out), r0, r1, rz0, rz1, p0, p1, z0, z1, hB⟩
                case measure => simp [intOf]; omega
              · have htp : 0 < tt := by omega
                have hzb : (tt == 0) = false := by simpa using hz
                have HC1 : Hid (choices f m (c + 1) = choices f m c ++ [c]) := Lib.hid (by rw [choices_succ, if_pos (by rw [HT2.out]; exact htp)])
                obtain ⟨rl, hrl⟩ : ∃ x, fl ll tt = x := ⟨_, rfl⟩
                obtain ⟨rh, hrh⟩ : ∃ x, ce hh tt = x := ⟨_, rfl⟩
                have hrl1 : rl ≤ 9223372036854775807 := by have := fl_bd hlb.1 htp; rw [hrl] at this; omega
                have hrh0 : 0 ≤ rh := by have := ce_bd hhb.1 htp; rw [hrh] at this; omega
                have HRL := Lib.hid hrl
                have HRH := Lib.hid hrh
                clear hz hrl hrh
                go_upto_region 22 with (first | (go_at_call 60; refine (fl_any _ _ _ (by omega) (by omega) (by omega) (by omega)).mono ?_; rintro e w1 ⟨rfl, rfl⟩; rw [HRL.out]) | (go_at_call 61; refine (ce_any _ _ _ (by omega) (by omega) (by omega) (by omega)).mono ?_; rintro e w1 ⟨rfl, rfl⟩; rw [HRH.out]))
                have hb9 := (Below.refl _ wb).alloc (Nat.le_refl _) (.cells #[.int .i64 rl, .int .i64 rh] 25)
                obtain ⟨BR, hBR⟩ : ∃ B, wb.heap.size = B := ⟨_, rfl⟩
                rw [hBR]
                refine nameWorld (fun w' => w'.cell? ⟨BR, 0, none⟩ = some (.int .i64 rl) ∧ w'.cell? ⟨BR, 1, none⟩ = some (.int .i64 rh) ∧ w'.cell? ⟨B0, 0, none⟩ = some (.int .i64 0) ∧ w'.cell? ⟨B0, 1, none⟩ = some (.int .i64 0) ∧ w'.frozen? ⟨B0, 0, none⟩ = false ∧ w'.frozen? ⟨B0, 1, none⟩ = false ∧ w'.cell? ⟨B0 + 1, 0, none⟩ = some (.int .i64 ol) ∧ w'.cell? ⟨B0 + 1, 1, none⟩ = some (.int .i64 oh) ∧ w'.frozen? ⟨B0 + 1, 0, none⟩ = false ∧ w'.frozen? ⟨B0 + 1, 1, none⟩ = false ∧ Below B0 w w') ⟨(newBoth hBR (Below.refl _ _) 0 _ rfl).1, (newBoth hBR (Below.refl _ _) 1 _ rfl).1, keepC hb9 r0, keepC hb9 r1, keepF hb9 r0 rz0, keepF hb9 r1 rz1, keepC hb9 p0, keepC hb9 p1, keepF hb9 p0 z0, keepF hb9 p1 z1, hB.trans (hb9.mono (by omega))⟩ (fun wd hwd => ?_)
                clear hb9 r0 r1 rz0 rz1 p0 p1 z0 z1 hB
                obtain ⟨f0, f1, r0, r1, rz0, rz1, p0, p1, z0, z1, hB⟩ := hwd
                have hne : BR ≠ B0 + 1 := by omega
                have hne2 : BR ≠ B0 := by omega
                clear hso hBR
                have hso : B0 + 1 < wd.heap.size := World.block_lt_of_cell? wd _ p0
                cases bb with
                | true =>
                  have hemp : choices f m c = [] := by rcases HO.out with ⟨h, -⟩ | ⟨-, h, -⟩; exact h; cases h
                  have N1 : Hid (loF f g m (choices f m (c + 1)) = rl) := Lib.hid (by rw [choices_nil_lo hemp (by rw [HT2.out]; exact htp) (by rw [HT2.out, HLL.out, HRL.out]; exact hrl1), HT2.out, HLL.out, HRL.out])
                  have N2 : Hid (hiF f k m (choices f m (c + 1)) = rh) := Lib.hid (by rw [choices_nil_hi hemp (by rw [HT2.out]; exact htp) (by rw [HT2.out, HHH.out, HRH.out]; exact hrh0), HT2.out, HHH.out, HRH.out])
                  clear hemp
                  go_upto_region 24 with fail
                  obtain ⟨g0, g1⟩ := set2 p0 p1 (.int .i64 rl) (.int .i64 rh)
                  refine nameWorld (fun w' => w'.cell? ⟨BR, 0, none⟩ = some (.int .i64 rl) ∧ w'.cell? ⟨BR, 1, none⟩ = some (.int .i64 rh) ∧ w'.cell? ⟨B0, 0, none⟩ = some (.int .i64 0) ∧ w'.cell? ⟨B0, 1, none⟩ = some (.int .i64 0) ∧ w'.frozen? ⟨B0, 0, none⟩ = false ∧ w'.frozen? ⟨B0, 1, none⟩ = false ∧ w'.cell? ⟨B0 + 1, 0, none⟩ = some (.int .i64 rl) ∧ w'.cell? ⟨B0 + 1, 1, none⟩ = some (.int .i64 rh) ∧ w'.frozen? ⟨B0 + 1, 0, none⟩ = false ∧ w'.frozen? ⟨B0 + 1, 1, none⟩ = false ∧ Below B0 w w') ⟨(World.cell?_setCell_other _ _ _ _ (by intro e; injection e; omega)).trans ((World.cell?_setCell_other _ _ _ _ (by intro e; injection e; omega)).trans f0), (World.cell?_setCell_other _ _ _ _ (by intro e; injection e; omega)).trans ((World.cell?_setCell_other _ _ _ _ (by intro e; injection e; omega)).trans f1), (World.cell?_setCell_other _ _ _ _ (by intro e; injection e; omega)).trans ((World.cell?_setCell_other _ _ _ _ (by intro e; injection e; omega)).trans r0), (World.cell?_setCell_other _ _ _ _ (by intro e; injection e; omega)).trans ((World.cell?_setCell_other _ _ _ _ (by intro e; injection e; omega)).trans r1), by rw [World.frozen?_setCell, World.frozen?_setCell]; exact rz0, by rw [World.frozen?_setCell, World.frozen?_setCell]; exact rz1, g0, g1, by rw [World.frozen?_setCell, World.frozen?_setCell]; exact z0, by rw [World.frozen?_setCell, World.frozen?_setCell]; exact z1, (hB.setCell (by show B0 ≤ B0 + 1; omega) _).setCell (by show B0 ≤ B0 + 1; omega) _⟩ (fun we hwe => ?_)
                  clear g0 g1 f0 f1 hso r0 r1 rz0 rz1 p0 p1 z0 z1 hB
                  obtain ⟨f0, f1, r0, r1, rz0, rz1, p0, p1, z0, z1, hB⟩ := hwe
                  go_wp2_with fail
                  obtain ⟨g0, g1⟩ := set2 p0 p1 (.int .i64 rl) (.int .i64 rh)
                  go_roundw
                  case rel => exact ⟨c + 1, false, rl, rh, ⟨by omega, by first | rfl | go_num, rfl⟩, Lib.hid (.inr ⟨by rw [HC1.out]; simp, rfl, N1.out.symm, N2.out.symm⟩), (World.cell?_setCell_other _ _ _ _ (by intro e; injection e; omega)).trans ((World.cell?_setCell_other _ _ _ _ (by intro e; injection e; omega)).trans r0), (World.cell?_setCell_other _ _ _ _ (by intro e; injection e; omega)).trans ((World.cell?_setCell_other _ _ _ _ (by intro e; injection e; omega)).trans r1), by rw [World.frozen?_setCell, World.frozen?_setCell]; exact rz0, by rw [World.frozen?_setCell, World.frozen?_setCell]; exact rz1, g0, g1, by rw [World.frozen?_setCell, World.frozen?_setCell]; exact z0, by rw [World.frozen?_setCell, World.frozen?_setCell]; exact z1, (hB.setCell (by show B0 ≤ B0 + 1; omega) _).setCell (by show B0 ≤ B0 + 1; omega) _⟩
                  case measure => simp [intOf]; omega
                | false =>
                  obtain ⟨o1, o2⟩ : ol = loF f g m (choices f m c) ∧ oh = hiF f k m (choices f m c) := by rcases HO.out with ⟨-, h⟩ | ⟨-, -, h⟩; cases h; exact h
                  have N1 : Hid (loF f g m (choices f m (c + 1)) = min ol rl) := Lib.hid (by rw [HC1.out, loF_snoc, loS, HT2.out, HLL.out, HRL.out, o1])
                  have N2 : Hid (hiF f k m (choices f m (c + 1)) = max oh rh) := Lib.hid (by rw [HC1.out, hiF_snoc, hiS, HT2.out, HHH.out, HRH.out, o2])
                  clear o1 o2
                  go_wp2_with fail
                  obtain ⟨g0, g1⟩ := set2 p0 p1 (.int .i64 (min ol rl)) (.int .i64 (max oh rh))
                  go_roundw
                  case rel => exact ⟨c + 1, false, min ol rl, max oh rh, ⟨by omega, by first | rfl | go_num, rfl⟩, Lib.hid (.inr ⟨by rw [HC1.out]; simp, rfl, N1.out.symm, N2.out.symm⟩), (World.cell?_setCell_other _ _ _ _ (by intro e; injection e; omega)).trans ((World.cell?_setCell_other _ _ _ _ (by intro e; injection e; omega)).trans r0), (World.cell?_setCell_other _ _ _ _ (by intro e; injection e; omega)).trans ((World.cell?_setCell_other _ _ _ _ (by intro e; injection e; omega)).trans r1), by rw [World.frozen?_setCell, World.frozen?_setCell]; exact rz0, by rw [World.frozen?_setCell, World.frozen?_setCell]; exact rz1, g0, g1, by rw [World.frozen?_setCell, World.frozen?_setCell]; exact z0, by rw [World.frozen?_setCell, World.frozen?_setCell]; exact z1, (hB.setCell (by show B0 ≤ B0 + 1; omega) _).setCell (by show B0 ≤ B0 + 1; omega) _⟩
                  case measure => simp [intOf]; omega
        · have e : c = T := by omega
          have hne : choices f j c ≠ [] := by
            rw [e, ← HT.out]
            exact List.ne_nil_of_mem (top_mem HP.out)
          obtain ⟨o1, o2⟩ : ol = loF f g j (choices f j c) ∧ oh = hiF f k j (choices f j c) := by rcases HO.out with ⟨h, -⟩ | ⟨-, -, h⟩; exact absurd h hne; exact h
          have N1 : Hid (loF f g j (choices f j (2 ^ j)) = ol) := Lib.hid (by rw [HT.out, ← e, o1])
          have N2 : Hid (hiF f k j (choices f j (2 ^ j)) = oh) := Lib.hid (by rw [HT.out, ← e, o2])
          subst e
          clear o1 o2 hne
          go_wp2_with fail
          obtain ⟨g0, g1⟩ := set2 r0 r1 (.int .i64 ol) (.int .i64 oh)
          refine bodyPost_ret (v := .agg #[.int .i64 ol, .int .i64 oh]) (by simp [results, Try.results38, go_sem, g0, g1]) rfl ⟨by rw [N1.out, N2.out], ?_⟩
          rw [hB0]
          exact (hB.setCell (by show B0 ≤ B0; omega) _).setCell (by show B0 ≤ B0; omega) _
end Go.Proofs.Ytbijhcoloajjaaa

/- My own law for regions, the sixth: operations that are quiet in a whole class of worlds (G) are taken first, in the text's order, though others (appends to rows of the call's own, allocs) change the world within G and do not wait for them; the others are walked in every order. -/
namespace Go.Proofs.Ytbijhcoloajjaaa
open Go.RowKit

section
variable {P : Program} {ops : Array Oper} {md : Region.Mode} {Q : Exit → Act → World → Prop} {G : World → Prop}
/-- in every world of G the operation yields v, and nothing turns -/
def QuietG (P : Program) (ops : Array Oper) (G : World → Prop) (o : Oper) (v : Value) (a : Act) : Prop :=
  Region.wanted o (yielded ops a.tmps) = true ∧ ∀ w, G w → (execOp a.eval o).run P w = .ok (.value v) w
/-- what the operation does in this one world -/
def StepG (P : Program) (ops : Array Oper) (o : Oper) (a : Act) (w : World) (u : Value) (w' : World) : Prop :=
  Region.wanted o (yielded ops a.tmps) = true ∧ (execOp a.eval o).run P w = .ok (.value u) w'
/-- kind true: quiet in G; false: what may turn the world, within G -/
def AnyG (P : Program) (md : Region.Mode) (ops : Array Oper) (Q : Exit → Act → World → Prop) (G : World → Prop) (kind : Nat → Bool) : Nat → Array Bool → Act → World → Prop
  | 0, listed, a, w => G w ∧ wpAny P md ops Q 0 listed a w
  | fuel + 1, listed, a, w => G w ∧ (Region.ready md ops listed = [] → Q .normal a w) ∧ ∀ i ∈ Region.ready md ops listed, ∀ o, ops[i]? = some o →
      (kind i = true → ∃ v, QuietG P ops G o v a ∧ AnyG P md ops Q G kind fuel (listed.setIfInBounds i true) (a.put o.dst v) w) ∧
      (kind i = false → ∃ u w', StepG P ops o a w u w' ∧ AnyG P md ops Q G kind fuel (listed.setIfInBounds i true) (a.put o.dst u) w')
theorem AnyG.inG {kind : Nat → Bool} {fuel : Nat} {listed : Array Bool} {a : Act} {w : World} (h : AnyG P md ops Q G kind fuel listed a w) : G w := by
  cases fuel
  · exact h.1
  · exact h.1
theorem wpOp_stepG {i : Nat} {o : Oper} {u : Value} {a : Act} {w w' : World} {K : Act → World → Prop} (hi : ops[i]? = some o) (hy : StepG P ops o a w u w') (h : K (a.put o.dst u) w') : wpOp P ops Q i K a w := by
  unfold wpOp
  simp only [hi, hy.1, if_true]
  refine .inl ?_
  unfold Oper.wp
  rw [hy.2]
  exact h
theorem AnyG.sound {kind : Nat → Bool} : ∀ (fuel : Nat) (listed : Array Bool) (a : Act) (w : World), AnyG P md ops Q G kind fuel listed a w → wpAny P md ops Q fuel listed a w
  | 0, _, _, _, h => h.2
  | fuel + 1, listed, a, w, h => by
    refine ⟨h.2.1, fun i hi => ?_⟩
    obtain ⟨_, o, ho, _⟩ := mem_ready.1 hi
    obtain ⟨h0, h1⟩ := h.2.2 i hi o ho
    cases hk : kind i with
    | true =>
      obtain ⟨v, hv, hz⟩ := h0 hk
      exact wpOp_stepG ho ⟨hv.1, hv.2 w h.1⟩ (AnyG.sound fuel _ _ _ hz)
    | false =>
      obtain ⟨u, w', hs, hz⟩ := h1 hk
      exact wpOp_stepG ho hs (AnyG.sound fuel _ _ _ hz)
theorem QuietG.put {oi oj : Oper} {v u : Value} {a : Act} (hap : oi.apart ops oj = true) (hs : ∀ cs b, oi.op ≠ .select cs b) (h : QuietG P ops G oi v a) : QuietG P ops G oi v (a.put oj.dst u) := by
  obtain ⟨_, _, h3⟩ := Oper.apart_spec hap
  unfold QuietG at *
  rw [execOp_put oi hs a oj.dst u h3, wanted_put oi a oj.dst u h3]
  exact h
theorem QuietG.unput {oi oj : Oper} {v u : Value} {a : Act} (hap : oi.apart ops oj = true) (hs : ∀ cs b, oj.op ≠ .select cs b) (h : QuietG P ops G oj u (a.put oi.dst v)) : QuietG P ops G oj u a := by
  obtain ⟨h1, _, _⟩ := Oper.apart_spec hap
  unfold QuietG at *
  rw [execOp_put oj hs a oi.dst v h1, wanted_put oj a oi.dst v h1] at h
  exact h
theorem StepG.unput {oi oj : Oper} {v u : Value} {a : Act} {w w' : World} (hap : oi.apart ops oj = true) (hs : ∀ cs b, oj.op ≠ .select cs b) (h : StepG P ops oj (a.put oi.dst v) w u w') : StepG P ops oj a w u w' := by
  obtain ⟨h1, _, _⟩ := Oper.apart_spec hap
  unfold StepG at *
  rw [execOp_put oj hs a oi.dst v h1, wanted_put oj a oi.dst v h1] at h
  exact h
/-- a quiet operation may be taken first -/
theorem AnyG.first {kind : Nat → Bool} {i : Nat} {oi : Oper} {v : Value} (hi : ops[i]? = some oi) (hk : kind i = true) (hsel : Region.noSelect ops = true) :
    ∀ (fuel : Nat) (listed : Array Bool) (a : Act) (w : World),
      (∀ j oj, ops[j]? = some oj → j ≠ i → listed.getD j true = false → (∀ e ∈ oj.after, Region.binds md e = true → e.on ≠ i) → oi.apart ops oj = true) →
      i ∈ Region.ready md ops listed → QuietG P ops G oi v a →
      AnyG P md ops Q G kind fuel (listed.setIfInBounds i true) (a.put oi.dst v) w → AnyG P md ops Q G kind (fuel + 1) listed a w := by
  have sel := Region.noSelect_spec hsel
  intro fuel
  induction fuel with
  | zero =>
    intro listed a w hfree hr hy H
    refine ⟨H.1, fun h => (by rw [h] at hr; cases hr), fun j hj o ho => ?_⟩
    by_cases hji : j = i
    · subst hji
      obtain rfl : o = oi := Option.some.inj (ho.symm.trans hi)
      exact ⟨fun _ => ⟨v, hy, H⟩, fun h => by rw [hk] at h; cases h⟩
    · exfalso
      have h1 := H.2.1
      have := ready_mono (i := i) hj hji
      rw [h1] at this
      cases this
  | succ fuel ih =>
    intro listed a w hfree hr hy H
    refine ⟨H.1, fun h => (by rw [h] at hr; cases hr), fun j hj oj hoj => ?_⟩
    by_cases hji : j = i
    · subst hji
      obtain rfl : oj = oi := Option.some.inj (hoj.symm.trans hi)
      exact ⟨fun _ => ⟨v, hy, H⟩, fun h => by rw [hk] at h; cases h⟩
    obtain ⟨hjun, oj', hoj', hall⟩ := mem_ready.1 hj
    obtain rfl : oj = oj' := Option.some.inj (hoj.symm.trans hoj')
    have hnot : ∀ e ∈ oj.after, Region.binds md e = true → e.on ≠ i := fun e he hb heq => by
      have h1 := hall e he hb
      have h0 := (mem_ready.1 hr).1
      rw [heq] at h1
      rcases Nat.lt_or_ge i listed.size with h' | h'
      · simp [h'] at h0 h1; rw [h0] at h1; cases h1
      · simp [Array.getElem?_eq_none h'] at h1
    have hap := hfree j oj hoj hji hjun hnot
    obtain ⟨_, h2, _⟩ := Oper.apart_spec hap
    have hfree' : ∀ k ok, ops[k]? = some ok → k ≠ i → (listed.setIfInBounds j true).getD k true = false →
        (∀ e ∈ ok.after, Region.binds md e = true → e.on ≠ i) → oi.apart ops ok = true := fun k ok hk' hki hun hno => by
      refine hfree k ok hk' hki ?_ hno
      by_cases hjk : j = k
      · subst hjk; exact hjun
      · rw [getD_set_ne true hjk] at hun; exact hun
    obtain ⟨g0, g1⟩ := H.2.2 j (ready_mono hj hji) oj hoj
    refine ⟨fun h => ?_, fun h => ?_⟩
    · obtain ⟨u, hu, hz⟩ := g0 h
      refine ⟨u, hu.unput hap (sel j oj · · hoj), ih _ _ w hfree' (ready_mono hr (Ne.symm hji)) (hy.put hap (sel i oi · · hi)) ?_⟩
      rw [Array.setIfInBounds_comm _ _ hji, ← Act.put_comm a v u h2]
      exact hz
    · obtain ⟨u, w', hs, hz⟩ := g1 h
      refine ⟨u, w', hs.unput hap (sel j oj · · hoj), ih _ _ w' hfree' (ready_mono hr (Ne.symm hji)) (hy.put hap (sel i oi · · hi)) ?_⟩
      rw [Array.setIfInBounds_comm _ _ hji, ← Act.put_comm a v u h2]
      exact hz
/-- the same, all that is asked of the text reckoned -/
theorem AnyG.take {kind : Nat → Bool} {fuel : Nat} {listed : Array Bool} {a : Act} {w : World} (i : Nat) {o : Oper} {v : Value} (ho : ops[i]? = some o) (hk : kind i = true) (hsel : Region.noSelect ops = true)
    (hr : (Region.ready md ops listed).contains i = true) (hf : Region.free md ops listed i = true) (hw : Region.wanted o (yielded ops a.tmps) = true) (hv : ∀ w, G w → (execOp a.eval o).run P w = .ok (.value v) w)
    (h : AnyG P md ops Q G kind fuel (listed.setIfInBounds i true) (a.put o.dst v) w) : AnyG P md ops Q G kind (fuel + 1) listed a w :=
  AnyG.first ho hk hsel _ _ _ _ (Region.free_spec ho hf) (by simpa using hr) ⟨hw, hv⟩ h
theorem AnyG.node {kind : Nat → Bool} {fuel : Nat} {listed : Array Bool} {a : Act} {w : World} (l : List Nat) (hr : Region.ready md ops listed = l) (hl : l ≠ []) (hg : G w)
    (h : ∀ i ∈ l, kind i = false ∧ ∃ o, ops[i]? = some o ∧ ∃ u w', StepG P ops o a w u w' ∧ AnyG P md ops Q G kind fuel (listed.setIfInBounds i true) (a.put o.dst u) w') : AnyG P md ops Q G kind (fuel + 1) listed a w := by
  refine ⟨hg, fun e => absurd (hr.symm.trans e) hl, fun i hi o ho => ?_⟩
  rw [hr] at hi
  obtain ⟨hk, o', ho', u, w', hs, hz⟩ := h i hi
  obtain rfl : o = o' := Option.some.inj (ho.symm.trans ho')
  exact ⟨fun h => (by rw [hk] at h; cases h), fun _ => ⟨u, w', hs, hz⟩⟩
theorem AnyG.done {kind : Nat → Bool} {listed : Array Bool} {a : Act} {w : World} (hr : Region.ready md ops listed = []) (hg : G w) (h : Q .normal a w) : AnyG P md ops Q G kind 0 listed a w :=
  ⟨hg, hr, h⟩
theorem regionG {id : Nat} {a : Act} {w : World} {l : List Oper} (G : World → Prop) (kind : Nat → Bool) (hm : P.follows .mixedOrders = true)
    (h : AnyG P .any l.toArray Q G kind l.toArray.size (Array.replicate l.toArray.size false) a w.drew) : (Code.region id l.toArray true).wp P Q a w :=
  wp_region_any hm (AnyG.sound _ _ _ _ h)
/-- the quiet operations of a list, one behind the other -/
def HeadL (P : Program) (ops : Array Oper) (G : World → Prop) (R : Act → Prop) : List Oper → Act → Prop
  | [], a => R a
  | o :: l, a => ∃ v, QuietG P ops G o v a ∧ HeadL P ops G R l (a.put o.dst v)
def setAll : List Nat → Array Bool → Array Bool
  | [], listed => listed
  | i :: l, listed => setAll l (listed.setIfInBounds i true)
def takeB (md : Region.Mode) (ops : Array Oper) (kind : Nat → Bool) : List Nat → Array Bool → Bool
  | [], _ => true
  | i :: l, listed => kind i && (Region.ready md ops listed).contains i && Region.free md ops listed i && takeB md ops kind l (listed.setIfInBounds i true)
/-- the operations of a list that are kept, and their places -/
def keptOps : List Oper → List Bool → List Oper
  | o :: l, true :: k => o :: keptOps l k
  | _ :: l, false :: k => keptOps l k
  | _, _ => []
def keptAt : Nat → List Bool → List Nat
  | i, true :: k => i :: keptAt (i + 1) k
  | i, false :: k => keptAt (i + 1) k
  | _, [] => []
theorem kept_spec (l : List Oper) : ∀ (k : List Bool) (s : Nat) (l' : List Oper), (∀ j, l'[j]? = l[s + j]?) → k.length ≤ l'.length → (keptAt s k).map (fun i => l[i]?) = (keptOps l' k).map some
  | [], s, l', _, _ => by cases l' <;> rfl
  | b :: k, s, [], _, h => by simp at h
  | b :: k, s, o :: l', h, hl => by
    have h0 : l[s]? = some o := by have := h 0; simpa using this.symm
    have hn : ∀ j, l'[j]? = l[s + 1 + j]? := fun j => by have := h (j + 1); rw [show s + 1 + j = s + (j + 1) by omega, ← this]; simp
    have ih := kept_spec l k (s + 1) l' hn (by simpa using hl)
    cases b
    · exact ih
    · show l[s]? :: _ = some o :: _
      rw [h0, ih]
theorem AnyG.takeL {kind : Nat → Bool} (hsel : Region.noSelect ops = true) (fuel : Nat) (w : World) : ∀ (qs : List Nat) (os : List Oper) (listed : Array Bool) (a : Act), qs.map (fun i => ops[i]?) = os.map some → takeB md ops kind qs listed = true →
    HeadL P ops G (fun a' => AnyG P md ops Q G kind fuel (setAll qs listed) a' w) os a → AnyG P md ops Q G kind (qs.length + fuel) listed a w
  | [], [], listed, a, _, _, h => by simpa [HeadL, setAll] using h
  | [], _ :: _, _, _, e, _, _ => by simp at e
  | _ :: _, [], _, _, e, _, _ => by simp at e
  | i :: qs, o :: os, listed, a, e, hB, h => by
    simp only [List.map_cons, List.cons.injEq] at e
    simp only [takeB, Bool.and_eq_true] at hB
    obtain ⟨⟨⟨hk, hr⟩, hf⟩, hB'⟩ := hB
    obtain ⟨v, hv, h'⟩ := h
    have e2 : (i :: qs).length + fuel = (qs.length + fuel) + 1 := by simp; omega
    rw [e2]
    exact AnyG.first e.1 hk hsel _ _ _ _ (Region.free_spec e.1 hf) (by simpa using hr) hv (AnyG.takeL hsel fuel w qs os _ _ e.2 hB' h')
theorem regionL {id : Nat} {a : Act} {w : World} {l : List Oper} (keep : List Bool) (n m : Nat) (G : World → Prop) (kind : Nat → Bool) (hm : P.follows .mixedOrders = true) (hsel : Region.noSelect l.toArray = true)
    (hB : takeB .any l.toArray kind (keptAt 0 keep) (Array.replicate n false) = true) (hn : l.length = n ∧ keep.length ≤ n ∧ n = (keptAt 0 keep).length + m)
    (h : ∀ R : Act → Prop, Hid (∀ a', AnyG P .any l.toArray Q G kind m (setAll (keptAt 0 keep) (Array.replicate n false)) a' w.drew → R a') → HeadL P l.toArray G R (keptOps l keep) a) : (Code.region id l.toArray true).wp P Q a w := by
  obtain ⟨e, hk, hnm⟩ := hn
  refine regionG G kind hm ?_
  have h1 : (keptAt 0 keep).map (fun i => l.toArray[i]?) = (keptOps l keep).map some := by
    have := kept_spec l keep 0 l (fun j => by simp) (by omega)
    simpa using this
  have h2 := AnyG.takeL (P := P) (md := .any) (Q := Q) (G := G) (kind := kind) hsel m w.drew (keptAt 0 keep) (keptOps l keep) (Array.replicate n false) a h1 hB (h _ (Lib.hid (fun _ h => h)))
  rw [List.size_toArray, e]
  rw [← hnm] at h2
  exact h2
theorem headL_val {R : Act → Prop} {o : Oper} {l : List Oper} {a : Act} (v : Value) (hw : Region.wanted o (yielded ops a.tmps) = true) (hv : ∀ w, G w → (execOp a.eval o).run P w = .ok (.value v) w) (h : HeadL P ops G R l (a.put o.dst v)) : HeadL P ops G R (o :: l) a := ⟨v, ⟨hw, hv⟩, h⟩
theorem headL_nil {R : Act → Prop} {a : Act} (h : R a) : HeadL P ops G R [] a := h
end
end Go.Proofs.Ytbijhcoloajjaaa

/- Three rows of a call's own, and blocks from which elements are appended to them: what each step keeps. -/
namespace Go.Proofs.Ytbijhcoloajjaaa
open Go.RowKit

def upd {α : Type} (f : Nat → α) (k : Nat) (v : α) : Nat → α := fun j => if j = k then v else f j
theorem upd_same {α : Type} (f : Nat → α) (k : Nat) (v : α) : upd f k v k = v := if_pos rfl
theorem upd_other {α : Type} (f : Nat → α) {k j : Nat} (v : α) (h : j ≠ k) : upd f k v j = f j := if_neg h
/-- the rows r (of n elements of two cells, xs), blocks q with the elements lo, hi to be appended -/
structure St (T : TypeId) (B : Nat) (w0 : World) (r : Nat → Value) (n : Nat → Nat) (xs : Nat → List Value) (q : Nat → Option Nat) (lo hi : Nat → Int) (w : World) : Prop where
  below : Below B w0 w
  size : B ≤ w.heap.size
  rows : ∀ k, k < 3 → w.ownsRow B T 2 (r k) (n k) (xs k)
  apart : ∀ k l, k < 3 → l < 3 → k ≠ l → ∀ b, (r k).ownBlock = some b → (r l).ownBlock ≠ some b
  news : ∀ k b, k < 3 → q k = some b → (w.cell? ⟨b, 0, none⟩ = some (.int .i64 (lo k)) ∧ w.cell? ⟨b, 1, none⟩ = some (.int .i64 (hi k))) ∧ b < w.heap.size ∧ ∀ l, l < 3 → (r l).ownBlock ≠ some b
variable {T : TypeId} {B : Nat} {w0 w : World} {r : Nat → Value} {n : Nat → Nat} {xs : Nat → List Value} {q : Nat → Option Nat} {lo hi : Nat → Int}
theorem St.build (h : St T B w0 r n xs q lo hi w) (k : Nat) : St T B w0 r n xs (upd q k (some w.heap.size)) lo hi (w.alloc (.cells #[.int .i64 (lo k), .int .i64 (hi k)] T)) := by
  have ha := (Below.refl w.heap.size w).alloc (Nat.le_refl _) (.cells #[.int .i64 (lo k), .int .i64 (hi k)] T)
  refine ⟨h.below.alloc h.size _, by rw [World.size_alloc]; have := h.size; omega, fun j hj => (h.rows j hj).alloc _, h.apart, fun j b hj hb => ?_⟩
  by_cases e : j = k
  · subst e
    rw [upd_same] at hb
    cases hb
    exact ⟨⟨newCell 0 _ rfl, newCell 1 _ rfl⟩, by rw [World.size_alloc]; omega, fun l hl e => by have := ((h.rows l hl).lt _ e).2; omega⟩
  · rw [upd_other q _ e] at hb
    obtain ⟨⟨c0, c1⟩, hs, hn⟩ := h.news j b hj hb
    exact ⟨⟨keepC ha c0, keepC ha c1⟩, by rw [World.size_alloc]; omega, hn⟩
theorem St.append (h : St T B w0 r n xs q lo hi w) (k b : Nat) (hk : k < 3) {t ty : TypeId} {P : Program} {i : TypeInfo} {z : Value} (hq : q k = some b) (ht : P.underlying t = some (.slice T)) (hi' : P.info? T = some i) (hz : i.zero = some z) (hsize : i.size = 2) (hby : i.bytes = 16) (hzs : z.cells.size = 2) (hn : n k ≤ 100) :
    ∃ g cap w', (Builtin.append_ #[t, t] ty #[r k, .slice (some ⟨b, 0, none⟩) 1 1]).run P w = .ok (.slice (some ⟨g, 0, none⟩) (n k + 1) cap) w' ∧
      St T B w0 (upd r k (.slice (some ⟨g, 0, none⟩) (n k + 1) cap)) (upd n k (n k + 1)) (upd xs k (xs k ++ [.int .i64 (lo k), .int .i64 (hi k)])) q lo hi w' := by
  obtain ⟨⟨c0, c1⟩, hbs, hbn⟩ := h.news k b hk hq
  obtain ⟨g, cap, w', hrun, hown, hgrow, hat, hlt⟩ := run_append_lies (P := P) w t ty B T i z 2 16 ht hi' hz hsize hby hzs (by decide) (r k) (n k) (xs k) (h.rows k hk) ⟨b, 0, none⟩ 1 1 [.int .i64 (lo k), .int .i64 (hi k)] rfl
    (fun j u hj => by
      match j, hj with
      | 0, hj => cases hj; exact c0
      | 1, hj => cases hj; exact c1)
    (fun u hu => by simp at hu; rcases hu with rfl | rfl <;> rfl) (by decide) (by unfold maxLen; omega) (by omega) h.size w.heap.size rfl
  have hgb : ∀ l, l < 3 → l ≠ k → (r l).ownBlock ≠ some g := fun l hl hne e => by
    rcases hat with h1 | h1
    · exact h.apart k l hk hl (Ne.symm hne) g h1 e
    · have := ((h.rows l hl).lt _ e).2; omega
  refine ⟨g, cap, w', hrun, h.below.grown hgrow h.size (fun j e => ((h.rows k hk).lt _ e).1), Nat.le_trans h.size hgrow.size, fun l hl => ?_, fun l m hl hm hne c e1 => ?_, fun l c hl hc => ?_⟩
  · by_cases e : l = k
    · subst e
      rw [upd_same, upd_same, upd_same]
      exact hown
    · rw [upd_other r _ e, upd_other n _ e, upd_other xs _ e]
      refine (h.rows l hl).kept hgrow ?_
      cases hb : (r l).ownBlock with
      | none => exact .inl rfl
      | some c => exact .inr (fun e2 => h.apart l k hl hk e c hb e2.symm)
  · by_cases e : l = k
    · subst e
      rw [upd_same] at e1
      rw [upd_other r _ (Ne.symm hne)]
      obtain rfl : g = c := Option.some.inj e1
      exact hgb m hm (Ne.symm hne)
    · rw [upd_other r _ e] at e1
      by_cases e2 : m = k
      · subst e2
        rw [upd_same]
        intro e3
        obtain rfl : g = c := Option.some.inj e3
        exact hgb l hl e e1
      · rw [upd_other r _ e2]
        exact h.apart l m hl hm hne c e1
  · obtain ⟨⟨d0, d1⟩, hs, hd⟩ := h.news l c hl hc
    have hne : some c ≠ (r k).ownBlock := fun e => hd k hk e.symm
    refine ⟨⟨(hgrow.cell_far _ hs hne).trans d0, (hgrow.cell_far _ hs hne).trans d1⟩, Nat.lt_of_lt_of_le hs hgrow.size, fun m hm => ?_⟩
    by_cases e : m = k
    · subst e
      rw [upd_same]
      intro e3
      obtain rfl : g = c := Option.some.inj e3
      rcases hat with h1 | h1
      · exact hd m hm h1
      · omega
    · rw [upd_other r _ e]
      exact hd m hm
end Go.Proofs.Ytbijhcoloajjaaa

/- The reference's Mixed. -/
namespace Go.Proofs.Ytbijhcoloajjaaa
open Go.RowKit

section
variable {P : Program} {ops : Array Oper} {md : Region.Mode} {Q : Exit → Act → World → Prop} {G : World → Prop}
theorem regionGn {id : Nat} {a : Act} {w : World} {l : List Oper} (n : Nat) (G : World → Prop) (kind : Nat → Bool) (hm : P.follows .mixedOrders = true) (hn : l.length = n)
    (h : AnyG P .any l.toArray Q G kind n (Array.replicate n false) a w.drew) : (Code.region id l.toArray true).wp P Q a w :=
  regionG G kind hm (by rw [List.size_toArray, hn]; exact h)
theorem AnyG.one {kind : Nat → Bool} {fuel : Nat} {listed : Array Bool} {a : Act} {w : World} (i : Nat) {o : Oper} (hr : Region.ready md ops listed = [i]) (hg : G w) (ki : kind i = false) (ho : ops[i]? = some o)
    (h : ∃ u w', StepG P ops o a w u w' ∧ AnyG P md ops Q G kind fuel (listed.setIfInBounds i true) (a.put o.dst u) w') : AnyG P md ops Q G kind (fuel + 1) listed a w :=
  AnyG.node [i] hr (by simp) hg (fun j hj => by
    have e : j = i := by simpa using hj
    subst e
    exact ⟨ki, o, ho, h⟩)
theorem AnyG.two {kind : Nat → Bool} {fuel : Nat} {listed : Array Bool} {a : Act} {w : World} (i k : Nat) {o p : Oper} (hr : Region.ready md ops listed = [i, k]) (hg : G w) (ki : kind i = false) (kk : kind k = false) (ho : ops[i]? = some o) (hp : ops[k]? = some p)
    (h : ∃ u w', StepG P ops o a w u w' ∧ AnyG P md ops Q G kind fuel (listed.setIfInBounds i true) (a.put o.dst u) w')
    (h' : ∃ u w', StepG P ops p a w u w' ∧ AnyG P md ops Q G kind fuel (listed.setIfInBounds k true) (a.put p.dst u) w') : AnyG P md ops Q G kind (fuel + 1) listed a w :=
  AnyG.node [i, k] hr (by simp) hg (fun j hj => by
    simp only [List.mem_cons, List.not_mem_nil, or_false] at hj
    rcases hj with rfl | rfl
    · exact ⟨ki, o, ho, h⟩
    · exact ⟨kk, p, hp, h'⟩)
theorem AnyG.three {kind : Nat → Bool} {fuel : Nat} {listed : Array Bool} {a : Act} {w : World} (i k l : Nat) {o p s : Oper} (hr : Region.ready md ops listed = [i, k, l]) (hg : G w) (ki : kind i = false) (kk : kind k = false) (kl : kind l = false) (ho : ops[i]? = some o) (hp : ops[k]? = some p) (hs : ops[l]? = some s)
    (h : ∃ u w', StepG P ops o a w u w' ∧ AnyG P md ops Q G kind fuel (listed.setIfInBounds i true) (a.put o.dst u) w')
    (h' : ∃ u w', StepG P ops p a w u w' ∧ AnyG P md ops Q G kind fuel (listed.setIfInBounds k true) (a.put p.dst u) w')
    (h'' : ∃ u w', StepG P ops s a w u w' ∧ AnyG P md ops Q G kind fuel (listed.setIfInBounds l true) (a.put s.dst u) w') : AnyG P md ops Q G kind (fuel + 1) listed a w :=
  AnyG.node [i, k, l] hr (by simp) hg (fun j hj => by
    simp only [List.mem_cons, List.not_mem_nil, or_false] at hj
    rcases hj with rfl | rfl | rfl
    · exact ⟨ki, o, ho, h⟩
    · exact ⟨kk, p, hp, h'⟩
    · exact ⟨kl, s, hs, h''⟩)
end
def loW : Nat → Wn → Int
  | 0, x => x.v0 | 1, x => x.s0 | _, x => x.c0
def hiW : Nat → Wn → Int
  | 0, x => x.v1 | 1, x => x.s1 | _, x => x.c1
def rowX (f : Nat → Wn) (m k : Nat) : List Value := (List.range k).flatMap fun i => [.int .i64 (loW m (f i)), .int .i64 (hiW m (f i))]
theorem rowX_succ (f : Nat → Wn) (m k : Nat) : rowX f m (k + 1) = rowX f m k ++ [.int .i64 (loW m (f k)), .int .i64 (hiW m (f k))] := by
  unfold rowX
  rw [List.range_succ, List.flatMap_append]
  rfl
theorem rowX_len (f : Nat → Wn) (m : Nat) : ∀ k, (rowX f m k).length = k * 2
  | 0 => rfl
  | k + 1 => by rw [rowX_succ, List.length_append, rowX_len f m k]; simp; omega
theorem rowX_at (f : Nat → Wn) (m : Nat) : ∀ k i, i < k → (rowX f m k)[i * 2]? = some (.int .i64 (loW m (f i))) ∧ (rowX f m k)[i * 2 + 1]? = some (.int .i64 (hiW m (f i)))
  | 0, _, h => by omega
  | k + 1, i, h => by
    rw [rowX_succ]
    by_cases e : i = k
    · subst e
      rw [List.getElem?_append_right (by rw [rowX_len]; omega), List.getElem?_append_right (by rw [rowX_len]; omega), rowX_len]
      rw [show i * 2 - i * 2 = 0 by omega, show i * 2 + 1 - i * 2 = 1 by omega]
      exact ⟨rfl, rfl⟩
    · have := rowX_at f m k i (by omega)
      rw [List.getElem?_append_left (by rw [rowX_len]; omega), List.getElem?_append_left (by rw [rowX_len]; omega)]
      exact this
def v3 (a b c : Value) : Nat → Value
  | 0 => a | 1 => b | _ => c
def Rows3 (T : TypeId) (f : Nat → Wn) (B k : Nat) (a b c : Value) (w : World) : Prop :=
  (∀ m, m < 3 → w.ownsRow B T 2 (v3 a b c m) k (rowX f m k)) ∧ (∀ m l, m < 3 → l < 3 → m ≠ l → ∀ d, (v3 a b c m).ownBlock = some d → (v3 a b c l).ownBlock ≠ some d)
theorem Rows3.kept {T : TypeId} {f : Nat → Wn} {B k : Nat} {a b c : Value} {w w' : World} (h : Rows3 T f B k a b c w) (hb : Below w.heap.size w w') : Rows3 T f B k a b c w' := ⟨fun m hm => rowBelowZ (h.1 m hm) hb, h.2⟩
theorem Rows3.st {T : TypeId} {f : Nat → Wn} {B k : Nat} {a b c : Value} {w : World} (h : Rows3 T f B k a b c w) (hB : B ≤ w.heap.size) (lo hi : Nat → Int) : St T B w (v3 a b c) (fun _ => k) (fun m => rowX f m k) (fun _ => none) lo hi w :=
  ⟨Below.refl _ _, hB, h.1, h.2, fun _ _ _ e => by cases e⟩
theorem St.leaf {T : TypeId} {f : Nat → Wn} {B k : Nat} {a b c a' b' c' : Value} {w w0 : World} {q : Nat → Option Nat} {N : Nat → Nat} {X : Nat → List Value}
    {x : Wn} (hx : f k = x) (h : St T B w0 (upd (upd (upd (v3 a b c) 0 a') 1 b') 2 c') N X q (fun m => loW m x) (fun m => hiW m x) w) (hN : ∀ m, m < 3 → N m = k + 1) (hX : ∀ m, m < 3 → X m = rowX f m k ++ [.int .i64 (loW m x), .int .i64 (hiW m x)]) : Rows3 T f B (k + 1) a' b' c' w := by
  subst hx
  have e : ∀ m, m < 3 → upd (upd (upd (v3 a b c) 0 a') 1 b') 2 c' m = v3 a' b' c' m := fun m hm => by
    match m, hm with
    | 0, _ => rfl
    | 1, _ => rfl
    | 2, _ => rfl
  refine ⟨fun m hm => ?_, fun m l hm hl hne d hd => ?_⟩
  · have := h.rows m hm
    rw [e m hm, hN m hm, hX m hm, ← rowX_succ] at this
    exact this
  · have := h.apart m l hm hl hne d
    rw [e m hm, e l hl] at this
    exact this hd
theorem St.drew {T : TypeId} {B : Nat} {w0 w : World} {r : Nat → Value} {n : Nat → Nat} {xs : Nat → List Value} {q : Nat → Option Nat} {lo hi : Nat → Int} (h : St T B w0 r n xs q lo hi w) : St T B w0 r n xs q lo hi w.drew := ⟨h.below.drew, h.size, h.rows, h.apart, h.news⟩
theorem StepG.append {P : Program} {ops : Array Oper} {o : Oper} {a : Act} {w w' : World} {s x : Operand} {t : TypeId} {v u r : Value} (hop : o.op = Op.call { callee := Callee.builtin Builtin.append, args := #[s, x], argTypes := #[t, t] }) (hw : Region.wanted o (yielded ops a.tmps) = true)
    (hs : a.eval s = v) (hx : a.eval x = u) (hrun : (Builtin.append_ #[t, t] o.type #[v, u]).run P w = .ok r w') : StepG P ops o a w r w' :=
  ⟨hw, by simp [execOp, hop, resolve, invoke, builtin, hs, hx, hrun, Result.andThen]⟩
def kindM (i : Nat) : Bool := !([6, 7, 14, 15, 22, 23].contains i)
theorem rangeInfo : (Try.prog.info? 25).map (fun i => (i.zero, i.size, i.bytes)) = some (some (.agg #[.int .i64 0, .int .i64 0]), 2, 16) := by kernel_rfl
end Go.Proofs.Ytbijhcoloajjaaa
