/- What the least and the greatest mean of choices are: bounds, members; a mixture of right wines is right. -/
import Derived.Test.YtbijhcoloajjaaaZD
import Derived.Test.YtbijhcoloajjaaaU2
import Derived.Test.YtbijhcoloajjaaaTT
namespace Go.Proofs.Ytbijhcoloajjaaa
open Go.RowKit

theorem loS_fold_ge {f : Nat → Wn} {g : Wn → Int} {n : Nat} {T : Int} : ∀ (l : List Nat) (a : Int), T ≤ a → (∀ c, c ∈ l → T ≤ fl (sumC f g c n) (totC f c n)) → T ≤ l.foldl (loS f g n) a
  | [], a, ha, _ => ha
  | c :: l, a, ha, h => loS_fold_ge l _ (by have := h c (by simp); unfold loS; omega) (fun d hd => h d (by simp [hd]))
theorem hiS_fold_le {f : Nat → Wn} {g : Wn → Int} {n : Nat} {T : Int} : ∀ (l : List Nat) (a : Int), a ≤ T → (∀ c, c ∈ l → ce (sumC f g c n) (totC f c n) ≤ T) → l.foldl (hiS f g n) a ≤ T
  | [], a, ha, _ => ha
  | c :: l, a, ha, h => hiS_fold_le l _ (by have := h c (by simp); unfold hiS; omega) (fun d hd => h d (by simp [hd]))
theorem loS_fold_start {f : Nat → Wn} {g : Wn → Int} {n : Nat} : ∀ (l : List Nat) (a : Int), l.foldl (loS f g n) a ≤ a
  | [], a => Int.le_refl _
  | c :: l, a => Int.le_trans (loS_fold_start l _) (by unfold loS; omega)
theorem hiS_fold_start {f : Nat → Wn} {g : Wn → Int} {n : Nat} : ∀ (l : List Nat) (a : Int), a ≤ l.foldl (hiS f g n) a
  | [], a => Int.le_refl _
  | c :: l, a => Int.le_trans (by unfold hiS; omega) (hiS_fold_start l _)
theorem loS_fold_mem {f : Nat → Wn} {g : Wn → Int} {n : Nat} : ∀ (l : List Nat) (a : Int) (c : Nat), c ∈ l → l.foldl (loS f g n) a ≤ fl (sumC f g c n) (totC f c n)
  | d :: l, a, c, h => by
    rcases List.mem_cons.1 h with rfl | h
    · exact Int.le_trans (loS_fold_start l _) (by unfold loS; omega)
    · exact loS_fold_mem l _ c h
theorem hiS_fold_mem {f : Nat → Wn} {g : Wn → Int} {n : Nat} : ∀ (l : List Nat) (a : Int) (c : Nat), c ∈ l → ce (sumC f g c n) (totC f c n) ≤ l.foldl (hiS f g n) a
  | d :: l, a, c, h => by
    rcases List.mem_cons.1 h with rfl | h
    · exact Int.le_trans (by unfold hiS; omega) (hiS_fold_start l _)
    · exact hiS_fold_mem l _ c h
theorem mem_choices {f : Nat → Wn} {n m c : Nat} : c ∈ choices f n m ↔ c < m ∧ 0 < totC f c n := by
  unfold choices
  rw [List.mem_filter, List.mem_range]
  simp
theorem sum_ge {f : Nat → Wn} {g : Wn → Int} {n : Nat} {T : Int} (hv : ∀ i, i < n → (f i).err = 0) (c : Nat) : ∀ m, m ≤ n → (∀ i, i < m → T ≤ g (f i)) → T * totC f c m ≤ sumC f g c m
  | 0, _, _ => by simp [totC, sumC]
  | m + 1, h, hg => by
    have h1 := sum_ge hv c m (by omega) (fun i hi => hg i (by omega))
    have h2 := volC_bd hv c (i := m) (by omega)
    have h3 : volC f c m * T ≤ volC f c m * g (f m) := Int.mul_le_mul_of_nonneg_left (hg m (by omega)) h2.1
    rw [totC, sumC, Int.mul_add, Int.mul_comm T (volC f c m)]
    omega
theorem sum_le {f : Nat → Wn} {g : Wn → Int} {n : Nat} {T : Int} (hv : ∀ i, i < n → (f i).err = 0) (c : Nat) : ∀ m, m ≤ n → (∀ i, i < m → g (f i) ≤ T) → sumC f g c m ≤ T * totC f c m
  | 0, _, _ => by simp [totC, sumC]
  | m + 1, h, hg => by
    have h1 := sum_le hv c m (by omega) (fun i hi => hg i (by omega))
    have h2 := volC_bd hv c (i := m) (by omega)
    have h3 : volC f c m * g (f m) ≤ volC f c m * T := Int.mul_le_mul_of_nonneg_left (hg m (by omega)) h2.1
    rw [totC, sumC, Int.mul_add, Int.mul_comm T (volC f c m)]
    omega
theorem sum_mono {f : Nat → Wn} {g k : Wn → Int} {n : Nat} (hv : ∀ i, i < n → (f i).err = 0) (c : Nat) : ∀ m, m ≤ n → (∀ i, i < m → g (f i) ≤ k (f i)) → sumC f g c m ≤ sumC f k c m
  | 0, _, _ => by simp [sumC]
  | m + 1, h, hg => by
    have h1 := sum_mono hv c m (by omega) (fun i hi => hg i (by omega))
    have h2 := volC_bd hv c (i := m) (by omega)
    have h3 : volC f c m * g (f m) ≤ volC f c m * k (f m) := Int.mul_le_mul_of_nonneg_left (hg m (by omega)) h2.1
    rw [sumC, sumC]
    omega
/-- the choice of all greatest ends -/
theorem top_bit (n i : Nat) (h : i < n) : (2 ^ n - 1) / 2 ^ i % 2 = 1 := by
  have h1 := Nat.testBit_two_pow_sub_one n i
  rw [Nat.testBit_eq_decide_div_mod_eq] at h1
  simpa [h] using h1
theorem top_tot (f : Nat → Wn) (n : Nat) : ∀ m, m ≤ n → totC f (2 ^ n - 1) m = vHi f m
  | 0, _ => rfl
  | m + 1, h => by rw [totC, vHi, top_tot f n m (by omega), volC, if_neg (by rw [top_bit n m (by omega)]; decide)]
theorem top_mem {f : Nat → Wn} {n : Nat} (h : 0 < vHi f n) : 2 ^ n - 1 ∈ choices f n (2 ^ n) := by
  have := Nat.two_pow_pos n
  exact mem_choices.2 ⟨by omega, by rw [top_tot f n n (Nat.le_refl _)]; exact h⟩
theorem mixV_zero {f : Nat → Wn} {n : Nat} : mixV f n = 0 ↔ 0 < vHi f n ∧ vHi f n ≤ 100000 := by
  unfold mixV unlE firstE
  by_cases h1 : 0 < vHi f n <;> by_cases h2 : vHi f n ≤ 100000 <;> simp [h1, h2]
theorem mixV_cases (f : Nat → Wn) (n : Nat) : mixV f n = 0 ∨ mixV f n = 8 ∨ mixV f n = 25 := by
  unfold mixV unlE firstE
  by_cases h1 : 0 < vHi f n <;> by_cases h2 : vHi f n ≤ 100000 <;> simp [h1, h2]
theorem mixB_zero {f : Nat → Wn} : ∀ (m k : Nat), (∀ j, k ≤ j → j < k + m → (f j).err = 0) → mixB f m k = 0
  | 0, _, _ => rfl
  | m + 1, k, h => by
    rw [mixB, if_pos (h k (by omega) (by omega))]
    exact mixB_zero m (k + 1) fun j h1 h2 => h j (by omega) (by omega)
/-- the ends of means lie where all ends of values do -/
theorem means_in {f : Nat → Wn} {g k : Wn → Int} {n : Nat} {T : Int} (hv : ∀ i, i < n → (f i).err = 0) (hg : ∀ i, i < n → 0 ≤ g (f i) ∧ g (f i) ≤ k (f i) ∧ k (f i) ≤ T) (hT : 0 ≤ T) (hp : 0 < vHi f n) :
    0 ≤ loF f g n (choices f n (2 ^ n)) ∧ loF f g n (choices f n (2 ^ n)) ≤ hiF f k n (choices f n (2 ^ n)) ∧ hiF f k n (choices f n (2 ^ n)) ≤ T := by
  refine ⟨?_, ?_, ?_⟩
  · refine loS_fold_ge _ _ (by decide) fun c hc => ?_
    obtain ⟨-, hpos⟩ := mem_choices.1 hc
    have := sum_ge (T := 0) hv c n (Nat.le_refl _) (fun i hi => (hg i hi).1)
    exact Int.ediv_nonneg (by omega) (by omega)
  · have hm := top_mem hp
    obtain ⟨-, hpos⟩ := mem_choices.1 hm
    have h1 := loS_fold_mem (f := f) (g := g) (n := n) _ 9223372036854775807 _ hm
    have h2 := hiS_fold_mem (f := f) (g := k) (n := n) _ 0 _ hm
    have h3 := sum_mono (g := g) (k := k) hv (2 ^ n - 1) n (Nat.le_refl _) (fun i hi => (hg i hi).2.1)
    have h4 := sum_ge (T := 0) (g := k) hv (2 ^ n - 1) n (Nat.le_refl _) (fun i hi => by have := hg i hi; omega)
    have h5 := fl_le_ce (n := sumC f g (2 ^ n - 1) n) (m := sumC f k (2 ^ n - 1) n) hpos (Int.le_refl _) h3 (by omega)
    exact Int.le_trans h1 (Int.le_trans h5 h2)
  · refine hiS_fold_le _ _ hT fun c hc => ?_
    obtain ⟨-, hpos⟩ := mem_choices.1 hc
    exact ce_le hpos (sum_le (T := T) hv c n (Nat.le_refl _) (fun i hi => (hg i hi).2.2))
theorem mixW_right {f : Nat → Wn} {n : Nat} (hv : ∀ i, i < n → (f i).err = 0) (h : mixV f n = 0) : (mixW f n).err = 0 := by
  obtain ⟨hp, hm⟩ := mixV_zero.1 h
  have hb := vLo_bd hv n (Nat.le_refl _)
  have hs := means_in (g := Wn.s0) (k := Wn.s1) (T := 10000) hv (fun i hi => by obtain ⟨⟨_, _, _⟩, ⟨_, _, _⟩, ⟨_, _, _⟩⟩ := wineE_zero.1 (hv i hi); omega) (by decide) hp
  have hc := means_in (g := Wn.c0) (k := Wn.c1) (T := 100000) hv (fun i hi => by obtain ⟨⟨_, _, _⟩, ⟨_, _, _⟩, ⟨_, _, _⟩⟩ := wineE_zero.1 (hv i hi); omega) (by decide) hp
  exact wineE_zero.2 ⟨⟨hb.1, hb.2.1, hm⟩, hs, hc⟩
theorem spW_right {vo st : Int} (h0 : 0 ≤ vo) (h1 : vo ≤ 100000) (h2 : 0 ≤ st) (h3 : st ≤ 10000) : (spW vo st).err = 0 :=
  wineE_zero.2 ⟨⟨h0, Int.le_refl _, h1⟩, ⟨h2, Int.le_refl _, h3⟩, ⟨Int.le_refl _, Int.le_refl _, by show (0 : Int) ≤ 100000; decide⟩⟩
theorem two_right {x y : Wn} (hx : x.err = 0) (hy : y.err = 0) : ∀ i, i < 2 → (twoW x y i).err = 0
  | 0, _ => hx
  | 1, _ => hy
/-- so much spirit is enough at either end of the volume -/
theorem nd_enough {v v1 s st tg : Int} (h0 : 0 ≤ v) (h1 : v ≤ v1) (ht : tg < st) : tg * (v + ndE v1 s st tg) ≤ v * s + ndE v1 s st tg * st := by
  unfold ndE
  split
  · rename_i h
    have := Int.mul_le_mul_of_nonneg_left h h0
    rw [Int.add_zero, Int.zero_mul, Int.add_zero, Int.mul_comm tg v]
    exact this
  · rename_i h
    have h2 := ce_mul (v1 * (tg - s)) (st - tg) (by omega)
    generalize ce (v1 * (tg - s)) (st - tg) = N at *
    have h3 : v * (tg - s) ≤ v1 * (tg - s) := Int.mul_le_mul_of_nonneg_right h1 (by omega)
    have e1 : v * (tg - s) = v * tg - v * s := Int.mul_sub _ _ _
    have e2 : N * (st - tg) = N * st - N * tg := Int.mul_sub _ _ _
    rw [Int.mul_add, Int.mul_comm tg v, Int.mul_comm tg N]
    omega
theorem nd_nonneg {v1 s st tg : Int} (h0 : 0 ≤ v1) (ht : tg < st) : 0 ≤ ndE v1 s st tg := by
  unfold ndE
  split
  · exact Int.le_refl _
  · have : 0 ≤ v1 * (tg - s) := Int.mul_nonneg h0 (by omega)
    have := ce_at_least (n := v1 * (tg - s)) (d := st - tg) (m := 0) (by omega) (by omega)
    exact this
/-- the least strength of a wine that is fortified with enough spirit -/
theorem fort_strong {y : Wn} {st tg : Int} (hy : y.err = 0) (h2 : st ≤ 10000) (ht : tg < st) :
    tg ≤ loF (twoW y (spW (ndE y.v1 y.s0 st tg) st)) Wn.s0 2 (choices (twoW y (spW (ndE y.v1 y.s0 st tg) st)) 2 (2 ^ 2)) := by
  obtain ⟨⟨R0, R1, R2⟩, -, -⟩ := wineE_zero.1 hy
  refine loS_fold_ge _ _ (by omega) fun c hc => ?_
  obtain ⟨-, hpos⟩ := mem_choices.1 hc
  have e1 : totC (twoW y (spW (ndE y.v1 y.s0 st tg) st)) c 2 = volC (twoW y (spW (ndE y.v1 y.s0 st tg) st)) c 0 + ndE y.v1 y.s0 st tg := by
    have : volC (twoW y (spW (ndE y.v1 y.s0 st tg) st)) c 1 = ndE y.v1 y.s0 st tg := by unfold volC; split <;> rfl
    rw [totC, totC, totC, this]; omega
  have e2 : sumC (twoW y (spW (ndE y.v1 y.s0 st tg) st)) Wn.s0 c 2 = volC (twoW y (spW (ndE y.v1 y.s0 st tg) st)) c 0 * y.s0 + ndE y.v1 y.s0 st tg * st := by
    have : volC (twoW y (spW (ndE y.v1 y.s0 st tg) st)) c 1 = ndE y.v1 y.s0 st tg := by unfold volC; split <;> rfl
    rw [sumC, sumC, sumC, this]
    show 0 + _ * y.s0 + _ * st = _
    omega
  rw [e1] at hpos
  rw [e1, e2]
  have hv : 0 ≤ volC (twoW y (spW (ndE y.v1 y.s0 st tg) st)) c 0 ∧ volC (twoW y (spW (ndE y.v1 y.s0 st tg) st)) c 0 ≤ y.v1 := by
    unfold volC
    split
    · exact ⟨R0, R1⟩
    · exact ⟨Int.le_trans R0 R1, Int.le_refl _⟩
  exact Int.le_ediv_of_mul_le hpos (nd_enough hv.1 hv.2 ht)
end Go.Proofs.Ytbijhcoloajjaaa
