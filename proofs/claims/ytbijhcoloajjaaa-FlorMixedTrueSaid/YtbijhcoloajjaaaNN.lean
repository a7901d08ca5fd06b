import Derived.Test.YtbijhcoloajjaaaYY
import Derived.Test.YtbijhcoloajjaaaY0
import Derived.Deep.Onto
import Derived.Test.YtbijhcoloajjaaaG0
/- What does not change the ends of a mixture: its order, a wine without volume; and the true mixture lies within them. No Go in sight. -/
namespace Go.Proofs.Ytbijhcoloajjaaa
open Go.RowKit

/-- the sum of the first numbers -/
def Su (F : Nat → Int) : Nat → Int
  | 0 => 0
  | m + 1 => Su F m + F m
theorem su_congr {F G : Nat → Int} : ∀ n, (∀ i, i < n → F i = G i) → Su F n = Su G n
  | 0, _ => rfl
  | m + 1, h => by rw [Su, Su, su_congr m (fun i hi => h i (by omega)), h m (by omega)]
theorem su_front (F : Nat → Int) : ∀ n, Su F (n + 1) = F 0 + Su (fun i => F (i + 1)) n
  | 0 => by simp [Su]
  | m + 1 => by
    have h := su_front F m
    have e1 : Su F (m + 1 + 1) = Su F (m + 1) + F (m + 1) := rfl
    have e2 : Su (fun i => F (i + 1)) (m + 1) = Su (fun i => F (i + 1)) m + F (m + 1) := rfl
    omega
theorem su_rev : ∀ (n : Nat) (F : Nat → Int), Su (fun i => F (n - 1 - i)) n = Su F n
  | 0, _ => rfl
  | m + 1, F => by
    have h := su_front F m
    have ih := su_rev m (fun i => F (i + 1))
    have e1 : Su (fun i => F (m + 1 - 1 - i)) (m + 1) = Su (fun i => F (m + 1 - 1 - i)) m + F (m + 1 - 1 - m) := rfl
    have e2 : Su (fun i => F (m + 1 - 1 - i)) m = Su (fun i => F (m - 1 - i + 1)) m := su_congr m fun i hi => by
      show F (m + 1 - 1 - i) = F (m - 1 - i + 1)
      rw [show m + 1 - 1 - i = m - 1 - i + 1 by omega]
    rw [e1, e2, h, show m + 1 - 1 - m = 0 by omega]
    omega
theorem su_neg (F : Nat → Int) : ∀ n, Su (fun i => -F i) n = -Su F n
  | 0 => rfl
  | m + 1 => by rw [Su, Su, su_neg F m]; omega
theorem su_mono {F G : Nat → Int} : ∀ n, (∀ i, i < n → F i ≤ G i) → Su F n ≤ Su G n
  | 0, _ => Int.le_refl _
  | m + 1, h => by
    have h1 := su_mono m (fun i hi => h i (by omega))
    have h2 := h m (by omega)
    rw [Su, Su]; omega
theorem su_nonneg {F : Nat → Int} : ∀ n, (∀ i, i < n → 0 ≤ F i) → 0 ≤ Su F n
  | 0, _ => Int.le_refl _
  | m + 1, h => by
    have h1 := su_nonneg m (fun i hi => h i (by omega))
    have h2 := h m (by omega)
    rw [Su]; omega
theorem su_zero {F : Nat → Int} : ∀ n, (∀ i, i < n → 0 ≤ F i) → Su F n = 0 → ∀ i, i < n → F i = 0
  | 0, _, _, i, hi => by omega
  | m + 1, h, e, i, hi => by
    have h1 := su_nonneg m (fun i hi => h i (by omega))
    have h2 := h m (by omega)
    have e1 : Su F (m + 1) = Su F m + F m := rfl
    by_cases c : i = m
    · subst c; omega
    · exact su_zero m (fun i hi => h i (by omega)) (by omega) i (by omega)
theorem su_other {F G : Nat → Int} {j : Nat} : ∀ n, j < n → (∀ i, i < n → i ≠ j → G i = F i) → Su G n = Su F n + (G j - F j)
  | 0, h, _ => by omega
  | m + 1, h, he => by
    have e1 : Su F (m + 1) = Su F m + F m := rfl
    have e2 : Su G (m + 1) = Su G m + G m := rfl
    by_cases c : j = m
    · subst c
      have := su_congr (F := G) (G := F) j (fun i hi => he i (by omega) (by omega))
      omega
    · have := su_other (F := F) (G := G) m (by omega) (fun i hi hn => he i (by omega) hn)
      have := he m (by omega) (by omega)
      omega
theorem totC_su (f : Nat → Wn) (c : Nat) : ∀ n, totC f c n = Su (volC f c) n
  | 0 => rfl
  | m + 1 => by rw [totC, Su, totC_su f c m]
theorem sumC_su (f : Nat → Wn) (g : Wn → Int) (c : Nat) : ∀ n, sumC f g c n = Su (fun i => volC f c i * g (f i)) n
  | 0 => rfl
  | m + 1 => by rw [sumC, Su, sumC_su f g c m]
theorem vLo_su (f : Nat → Wn) : ∀ n, vLo f n = Su (fun i => (f i).v0) n
  | 0 => rfl
  | m + 1 => by rw [vLo, Su, vLo_su f m]
theorem vHi_su (f : Nat → Wn) : ∀ n, vHi f n = Su (fun i => (f i).v1) n
  | 0 => rfl
  | m + 1 => by rw [vHi, Su, vHi_su f m]
/-- the number that has these bits -/
def bitN (b : Nat → Bool) : Nat → Nat
  | 0 => 0
  | m + 1 => bitN b m + (if b m then 2 ^ m else 0)
theorem bitN_lt (b : Nat → Bool) : ∀ m, bitN b m < 2 ^ m
  | 0 => Nat.zero_lt_one
  | m + 1 => by
    have h := bitN_lt b m
    rw [bitN, Nat.pow_succ]
    split <;> omega
theorem pow_part {i m : Nat} (h : i < m) : 2 ^ m = 2 ^ i * (2 * 2 ^ (m - i - 1)) := by
  rw [← Nat.pow_succ', ← Nat.pow_add]
  congr 1
  omega
theorem bit_add {x i m K : Nat} (h : i < m) : (x + 2 ^ m * K) / 2 ^ i % 2 = x / 2 ^ i % 2 := by
  rw [pow_part h, Nat.mul_assoc, Nat.add_mul_div_left _ _ (Nat.two_pow_pos i), Nat.mul_assoc, Nat.add_mul_mod_self_left]
theorem bitN_bit (b : Nat → Bool) : ∀ m i, i < m → bitN b m / 2 ^ i % 2 = if b i then 1 else 0
  | 0, i, h => by omega
  | m + 1, i, h => by
    have hx := bitN_lt b m
    rw [bitN]
    by_cases e : i = m
    · subst e
      cases hb : b i
      · simp only [Bool.false_eq_true, if_false, Nat.add_zero]
        rw [Nat.div_eq_of_lt hx]
      · simp only [if_true]
        rw [Nat.add_div_right _ (Nat.two_pow_pos i), Nat.div_eq_of_lt hx]
    · have ih := bitN_bit b m i (by omega)
      cases hb : b m
      · simpa using ih
      · simp only [if_true]
        have := bit_add (x := bitN b m) (K := 1) (show i < m by omega)
        rw [Nat.mul_one] at this
        rw [this]
        exact ih
theorem mix_congr {f f' : Nat → Wn} {n n' : Nat} (hB : mixB f' n' 0 = mixB f n 0) (hL : vLo f' n' = vLo f n) (hH : vHi f' n' = vHi f n)
    (h1 : ∀ c, c ∈ choices f n (2 ^ n) → ∃ d, d ∈ choices f' n' (2 ^ n') ∧ totC f' d n' = totC f c n ∧ ∀ g, sumC f' g d n' = sumC f g c n)
    (h2 : ∀ c, c ∈ choices f' n' (2 ^ n') → ∃ d, d ∈ choices f n (2 ^ n) ∧ totC f d n = totC f' c n' ∧ ∀ g, sumC f g d n = sumC f' g c n') : mixR f' n' = mixR f n := by
  have hlo : ∀ g, loF f' g n' (choices f' n' (2 ^ n')) = loF f g n (choices f n (2 ^ n)) := fun g => by
    refine Int.le_antisymm ?_ ?_
    · refine loS_fold_ge _ _ (loS_fold_start _ _) fun c hc => ?_
      obtain ⟨d, hd, e1, e2⟩ := h1 c hc
      rw [← e1, ← e2 g]
      exact loS_fold_mem _ _ d hd
    · refine loS_fold_ge _ _ (loS_fold_start _ _) fun c hc => ?_
      obtain ⟨d, hd, e1, e2⟩ := h2 c hc
      rw [← e1, ← e2 g]
      exact loS_fold_mem _ _ d hd
  have hhi : ∀ g, hiF f' g n' (choices f' n' (2 ^ n')) = hiF f g n (choices f n (2 ^ n)) := fun g => by
    refine Int.le_antisymm ?_ ?_
    · refine hiS_fold_le _ _ (hiS_fold_start _ _) fun c hc => ?_
      obtain ⟨d, hd, e1, e2⟩ := h2 c hc
      rw [← e1, ← e2 g]
      exact hiS_fold_mem _ _ d hd
    · refine hiS_fold_le _ _ (hiS_fold_start _ _) fun c hc => ?_
      obtain ⟨d, hd, e1, e2⟩ := h1 c hc
      rw [← e1, ← e2 g]
      exact hiS_fold_mem _ _ d hd
  have hV : mixV f' n' = mixV f n := by unfold mixV; rw [hH]
  unfold mixR
  rw [hB, hV, hL, hH, hlo Wn.s0, hhi Wn.s1, hlo Wn.c0, hhi Wn.c1]
/-- turned round, each choice has its own -/
theorem turn_choice {f f' : Nat → Wn} {n : Nat} (hr : ∀ i, i < n → f' i = f (n - 1 - i)) (c : Nat) : ∃ d, d < 2 ^ n ∧ totC f' d n = totC f c n ∧ ∀ g, sumC f' g d n = sumC f g c n := by
  let b : Nat → Bool := fun i => decide (c / 2 ^ (n - 1 - i) % 2 = 1)
  have hv : ∀ i, i < n → volC f' (bitN b n) i = volC f c (n - 1 - i) := fun i hi => by
    unfold volC
    rw [bitN_bit b n i hi, hr i hi]
    show (if (if decide (c / 2 ^ (n - 1 - i) % 2 = 1) = true then 1 else 0) = 0 then _ else _) = _
    by_cases e : c / 2 ^ (n - 1 - i) % 2 = 0
    · simp [e]
    · have e1 : c / 2 ^ (n - 1 - i) % 2 = 1 := by omega
      simp [e1]
  refine ⟨bitN b n, bitN_lt b n, ?_, fun g => ?_⟩
  · rw [totC_su, totC_su, ← su_rev n (volC f c)]
    exact su_congr n hv
  · rw [sumC_su, sumC_su, ← su_rev n (fun i => volC f c i * g (f i))]
    exact su_congr n fun i hi => by rw [hv i hi, hr i hi]
theorem mixR_turn {f f' : Nat → Wn} {n : Nat} (hr : ∀ i, i < n → f' i = f (n - 1 - i)) (hv : ∀ i, i < n → (f i).err = 0) : mixR f' n = mixR f n := by
  have hr2 : ∀ i, i < n → f i = f' (n - 1 - i) := fun i hi => by rw [hr _ (by omega), show n - 1 - (n - 1 - i) = i by omega]
  have hv2 : ∀ i, i < n → (f' i).err = 0 := fun i hi => by rw [hr i hi]; exact hv _ (by omega)
  refine mix_congr ?_ ?_ ?_ ?_ ?_
  · rw [mixB_zero n 0 (fun j _ hj => hv2 j (by omega)), mixB_zero n 0 (fun j _ hj => hv j (by omega))]
  · rw [vLo_su, vLo_su, ← su_rev n (fun i => (f i).v0)]
    exact su_congr n fun i hi => by rw [hr i hi]
  · rw [vHi_su, vHi_su, ← su_rev n (fun i => (f i).v1)]
    exact su_congr n fun i hi => by rw [hr i hi]
  · intro c hc
    obtain ⟨-, hpos⟩ := mem_choices.1 hc
    obtain ⟨d, hd, e1, e2⟩ := turn_choice hr c
    exact ⟨d, mem_choices.2 ⟨hd, by rw [e1]; exact hpos⟩, e1, e2⟩
  · intro c hc
    obtain ⟨-, hpos⟩ := mem_choices.1 hc
    obtain ⟨d, hd, e1, e2⟩ := turn_choice hr2 c
    exact ⟨d, mem_choices.2 ⟨hd, by rw [e1]; exact hpos⟩, e1, e2⟩
/-- a wine without volume behind the others -/
theorem more_choice {f f' : Nat → Wn} {n : Nat} (he : ∀ i, i < n → f' i = f i) (h0 : (f' n).v0 = 0) (h1 : (f' n).v1 = 0) (c d : Nat) (hcd : ∀ i, i < n → c / 2 ^ i % 2 = d / 2 ^ i % 2) : totC f' c (n + 1) = totC f d n ∧ ∀ g, sumC f' g c (n + 1) = sumC f g d n := by
  have hv : ∀ i, i < n → volC f' c i = volC f d i := fun i hi => by unfold volC; rw [hcd i hi, he i hi]
  have hz : volC f' c n = 0 := by unfold volC; rw [h0, h1]; split <;> rfl
  refine ⟨?_, fun g => ?_⟩
  · rw [totC, hz, totC_su, totC_su, Int.add_zero]
    exact su_congr n hv
  · rw [sumC, hz, Int.zero_mul, Int.add_zero, sumC_su, sumC_su]
    exact su_congr n fun i hi => by rw [hv i hi, he i hi]
theorem mixR_more {f f' : Nat → Wn} {n : Nat} (he : ∀ i, i < n → f' i = f i) (h0 : (f' n).v0 = 0) (h1 : (f' n).v1 = 0) (hv : ∀ i, i < n → (f i).err = 0) (hz : (f' n).err = 0) : mixR f' (n + 1) = mixR f n := by
  have hv2 : ∀ i, i < n + 1 → (f' i).err = 0 := fun i hi => by
    by_cases e : i = n
    · rw [e]; exact hz
    · rw [he i (by omega)]; exact hv i (by omega)
  refine mix_congr ?_ ?_ ?_ ?_ ?_
  · rw [mixB_zero (n + 1) 0 (fun j _ hj => hv2 j (by omega)), mixB_zero n 0 (fun j _ hj => hv j (by omega))]
  · rw [vLo, h0, Int.add_zero, vLo_su, vLo_su]
    exact su_congr n fun i hi => by rw [he i hi]
  · rw [vHi, h1, Int.add_zero, vHi_su, vHi_su]
    exact su_congr n fun i hi => by rw [he i hi]
  · intro c hc
    obtain ⟨hlt, hpos⟩ := mem_choices.1 hc
    obtain ⟨e1, e2⟩ := more_choice he h0 h1 c c (fun _ _ => rfl)
    exact ⟨c, mem_choices.2 ⟨by rw [Nat.pow_succ]; omega, by rw [e1]; exact hpos⟩, e1, e2⟩
  · intro c hc
    obtain ⟨hlt, hpos⟩ := mem_choices.1 hc
    have hb : ∀ i, i < n → c / 2 ^ i % 2 = (c % 2 ^ n) / 2 ^ i % 2 := fun i hi => by
      have := bit_add (x := c % 2 ^ n) (K := c / 2 ^ n) hi
      rw [Nat.mod_add_div] at this
      exact this
    obtain ⟨e1, e2⟩ := more_choice he h0 h1 c (c % 2 ^ n) hb
    exact ⟨c % 2 ^ n, mem_choices.2 ⟨Nat.mod_lt _ (Nat.two_pow_pos n), by rw [← e1]; exact hpos⟩, e1.symm, fun g => (e2 g).symm⟩
/-- one volume moved to an end, so that the mean is no greater -/
theorem corner_step {n j : Nat} {u G lo hi : Nat → Int} (hj : j < n) (hu : ∀ i, i < n → 0 ≤ lo i ∧ lo i ≤ u i ∧ u i ≤ hi i) (hT : 0 < Su u n) :
    ∃ v, (v = lo j ∨ v = hi j) ∧ 0 < Su (fun i => if i = j then v else u i) n ∧ Su (fun i => (if i = j then v else u i) * G i) n * Su u n ≤ Su (fun i => u i * G i) n * Su (fun i => if i = j then v else u i) n := by
  have key : ∀ v, Su (fun i => if i = j then v else u i) n = Su u n + (v - u j) ∧ Su (fun i => (if i = j then v else u i) * G i) n = Su (fun i => u i * G i) n + (v - u j) * G j := fun v => by
    refine ⟨?_, ?_⟩
    · have := su_other (F := u) (G := fun i => if i = j then v else u i) n hj (fun i _ hn => if_neg hn)
      rw [this]
      show _ + ((if j = j then v else u j) - u j) = _
      rw [if_pos rfl]
    · have := su_other (F := fun i => u i * G i) (G := fun i => (if i = j then v else u i) * G i) n hj (fun i _ hn => by show (if i = j then v else u i) * G i = _; rw [if_neg hn])
      rw [this]
      show _ + ((if j = j then v else u j) * G j - u j * G j) = _
      rw [if_pos rfl, Int.sub_mul]
  have fin : ∀ v, (v - u j) * (G j * Su u n - Su (fun i => u i * G i) n) ≤ 0 → Su (fun i => (if i = j then v else u i) * G i) n * Su u n ≤ Su (fun i => u i * G i) n * Su (fun i => if i = j then v else u i) n := fun v h => by
    rw [(key v).1, (key v).2]
    generalize Su (fun i => u i * G i) n = S at *
    generalize Su u n = T at *
    have e1 : (S + (v - u j) * G j) * T = S * T + (v - u j) * G j * T := Int.add_mul _ _ _
    have e2 : S * (T + (v - u j)) = S * T + S * (v - u j) := Int.mul_add _ _ _
    have e3 : (v - u j) * (G j * T - S) = (v - u j) * G j * T - S * (v - u j) := by rw [Int.mul_sub, Int.mul_assoc, Int.mul_comm S]
    omega
  obtain ⟨l0, l1, l2⟩ := hu j hj
  by_cases hc : G j * Su u n ≤ Su (fun i => u i * G i) n
  · refine ⟨hi j, .inr rfl, by rw [(key _).1]; omega, fin _ ?_⟩
    have := Int.mul_nonneg (show 0 ≤ hi j - u j by omega) (show 0 ≤ Su (fun i => u i * G i) n - G j * Su u n by omega)
    rw [← Int.neg_sub (G j * Su u n), Int.mul_neg] at this
    omega
  · have hle := fin (lo j) (by
      have := Int.mul_nonneg (show 0 ≤ u j - lo j by omega) (show 0 ≤ G j * Su u n - Su (fun i => u i * G i) n by omega)
      rw [← Int.neg_sub (lo j), Int.neg_mul] at this
      omega)
    refine ⟨lo j, .inl rfl, ?_, hle⟩
    have hnn : ∀ i, i < n → 0 ≤ (fun i => if i = j then lo j else u i) i := fun i hi => by
      have := hu i hi
      show 0 ≤ if i = j then lo j else u i
      split
      · exact l0
      · omega
    have h0 := su_nonneg n hnn
    rcases Int.lt_or_eq_of_le h0 with h | h
    · exact h
    · exfalso
      have hz := su_zero n hnn h.symm
      have hs : Su (fun i => (if i = j then lo j else u i) * G i) n = 0 := by
        have : Su (fun i => (if i = j then lo j else u i) * G i) n = Su (fun _ => 0) n := su_congr n fun i hi => by
          have h1 : (if i = j then lo j else u i) = 0 := hz i hi
          show (if i = j then lo j else u i) * G i = 0
          rw [h1, Int.zero_mul]
        rw [this]
        have : ∀ m, Su (fun _ => (0 : Int)) m = 0 := fun m => by
          induction m with
          | zero => rfl
          | succ m ih => rw [Su, ih]; rfl
        exact this n
      rw [(key _).2] at hs
      rw [(key _).1] at h
      have e : Su u n = -(lo j - u j) := by omega
      apply hc
      rw [e, Int.mul_neg, Int.mul_comm (G j)]
      omega
theorem corner_all {n : Nat} {u G lo hi : Nat → Int} (hu : ∀ i, i < n → 0 ≤ lo i ∧ lo i ≤ u i ∧ u i ≤ hi i) (hT : 0 < Su u n) :
    ∀ j, j ≤ n → ∃ v : Nat → Int, (∀ i, i < j → v i = lo i ∨ v i = hi i) ∧ (∀ i, i < n → 0 ≤ lo i ∧ lo i ≤ v i ∧ v i ≤ hi i) ∧ 0 < Su v n ∧ Su (fun i => v i * G i) n * Su u n ≤ Su (fun i => u i * G i) n * Su v n
  | 0, _ => ⟨u, fun i h => by omega, hu, hT, Int.le_refl _⟩
  | j + 1, hj => by
    obtain ⟨v, h1, h2, h3, h4⟩ := corner_all hu hT j (by omega)
    obtain ⟨x, hx, h5, h6⟩ := corner_step (G := G) (show j < n by omega) h2 h3
    refine ⟨fun i => if i = j then x else v i, fun i hl => ?_, fun i hl => ?_, h5, ?_⟩
    · show (if i = j then x else v i) = lo i ∨ (if i = j then x else v i) = hi i
      by_cases e : i = j
      · subst e; rw [if_pos rfl]; exact hx
      · rw [if_neg e]; exact h1 i (by omega)
    · show 0 ≤ lo i ∧ lo i ≤ (if i = j then x else v i) ∧ (if i = j then x else v i) ≤ hi i
      have h7 := h2 i hl
      by_cases e : i = j
      · subst e
        rw [if_pos rfl]
        rcases hx with rfl | rfl <;> omega
      · rw [if_neg e]; exact h7
    · generalize Su (fun i => (if i = j then x else v i) * G i) n = S2 at *
      generalize Su (fun i => if i = j then x else v i) n = T2 at *
      generalize Su (fun i => v i * G i) n = S1 at *
      generalize Su v n = T1 at *
      generalize Su (fun i => u i * G i) n = S0 at *
      generalize Su u n = T0 at *
      have a1 := Int.mul_le_mul_of_nonneg_right h6 (show 0 ≤ T0 by omega)
      have a2 := Int.mul_le_mul_of_nonneg_right h4 (show 0 ≤ T2 by omega)
      refine Int.le_of_mul_le_mul_right ?_ h3
      calc S2 * T0 * T1 = S2 * T1 * T0 := by rw [Int.mul_assoc, Int.mul_comm T0, Int.mul_assoc]
        _ ≤ S1 * T2 * T0 := a1
        _ = S1 * T0 * T2 := by rw [Int.mul_assoc, Int.mul_comm T2, Int.mul_assoc]
        _ ≤ S0 * T1 * T2 := a2
        _ = S0 * T2 * T1 := by rw [Int.mul_assoc, Int.mul_comm T1, Int.mul_assoc]
theorem corner_of {f : Nat → Wn} {n : Nat} {u G : Nat → Int} (hu : ∀ i, i < n → 0 ≤ (f i).v0 ∧ (f i).v0 ≤ u i ∧ u i ≤ (f i).v1) (hT : 0 < Su u n) :
    ∃ c, c < 2 ^ n ∧ 0 < totC f c n ∧ Su (fun i => volC f c i * G i) n * Su u n ≤ Su (fun i => u i * G i) n * totC f c n := by
  obtain ⟨v, h1, h2, h3, h4⟩ := corner_all (G := G) (lo := fun i => (f i).v0) (hi := fun i => (f i).v1) hu hT n (Nat.le_refl _)
  let b : Nat → Bool := fun i => decide (v i ≠ (f i).v0)
  have hv : ∀ i, i < n → volC f (bitN b n) i = v i := fun i hi => by
    unfold volC
    rw [bitN_bit b n i hi]
    show (if (if decide (v i ≠ (f i).v0) = true then 1 else 0) = 0 then (f i).v0 else (f i).v1) = v i
    by_cases e : v i = (f i).v0
    · simp [e]
    · have : v i = (f i).v1 := (h1 i hi).resolve_left e
      simp [e]
      exact this.symm
  have e1 : totC f (bitN b n) n = Su v n := by rw [totC_su]; exact su_congr n hv
  have e2 : Su (fun i => volC f (bitN b n) i * G i) n = Su (fun i => v i * G i) n := su_congr n fun i hi => by rw [hv i hi]
  exact ⟨bitN b n, bitN_lt b n, by rw [e1]; exact h3, by rw [e1, e2]; exact h4⟩
/-- the true mean lies within the ends that are told -/
theorem true_lo {f : Nat → Wn} {n : Nat} {u t : Nat → Int} (g : Wn → Int) (hu : ∀ i, i < n → 0 ≤ (f i).v0 ∧ (f i).v0 ≤ u i ∧ u i ≤ (f i).v1) (ht : ∀ i, i < n → g (f i) ≤ t i) (hT : 0 < Su u n) :
    loF f g n (choices f n (2 ^ n)) * Su u n ≤ Su (fun i => u i * t i) n := by
  obtain ⟨c, hc, hpos, hle⟩ := corner_of (G := fun i => g (f i)) hu hT
  have h1 := loS_fold_mem (f := f) (g := g) (n := n) _ 9223372036854775807 c (mem_choices.2 ⟨hc, hpos⟩)
  rw [← sumC_su] at hle
  have h2 := fl_le _ _ _ _ hpos hT hle
  have h3 : Su (fun i => u i * g (f i)) n ≤ Su (fun i => u i * t i) n := su_mono n fun i hi => Int.mul_le_mul_of_nonneg_left (ht i hi) (by have := hu i hi; omega)
  exact Int.le_trans (Int.mul_le_mul_of_nonneg_right h1 (by omega)) (Int.le_trans h2 h3)
theorem true_hi {f : Nat → Wn} {n : Nat} {u t : Nat → Int} (g : Wn → Int) (hu : ∀ i, i < n → 0 ≤ (f i).v0 ∧ (f i).v0 ≤ u i ∧ u i ≤ (f i).v1) (ht : ∀ i, i < n → t i ≤ g (f i)) (hT : 0 < Su u n) :
    Su (fun i => u i * t i) n ≤ hiF f g n (choices f n (2 ^ n)) * Su u n := by
  obtain ⟨c, hc, hpos, hle⟩ := corner_of (G := fun i => -g (f i)) hu hT
  have h1 := hiS_fold_mem (f := f) (g := g) (n := n) _ 0 c (mem_choices.2 ⟨hc, hpos⟩)
  have e1 : Su (fun i => volC f c i * -g (f i)) n = -sumC f g c n := by
    rw [sumC_su, ← su_neg]
    exact su_congr n fun i _ => Int.mul_neg _ _
  have e2 : Su (fun i => u i * -g (f i)) n = -Su (fun i => u i * g (f i)) n := by
    rw [← su_neg]
    exact su_congr n fun i _ => Int.mul_neg _ _
  rw [e1, e2, Int.neg_mul, Int.neg_mul] at hle
  have h2 := ce_ge (sumC f g c n) (totC f c n) (Su (fun i => u i * g (f i)) n) (Su u n) hpos hT (by omega)
  have h3 : Su (fun i => u i * t i) n ≤ Su (fun i => u i * g (f i)) n := su_mono n fun i hi => Int.mul_le_mul_of_nonneg_left (ht i hi) (by have := hu i hi; omega)
  exact Int.le_trans h3 (Int.le_trans h2 (Int.mul_le_mul_of_nonneg_right h1 (by omega)))
theorem true_all {f : Nat → Wn} {n : Nat} {u : Nat → Int} (hu : ∀ i, i < n → 0 ≤ (f i).v0 ∧ (f i).v0 ≤ u i ∧ u i ≤ (f i).v1) : vLo f n ≤ Su u n ∧ Su u n ≤ vHi f n := by
  rw [vLo_su, vHi_su]
  exact ⟨su_mono n fun i hi => (hu i hi).2.1, su_mono n fun i hi => (hu i hi).2.2⟩
end Go.Proofs.Ytbijhcoloajjaaa

/- The reference's CopyWines, with what the copy owns. -/
namespace Go.Proofs.Ytbijhcoloajjaaa
open Go.RowKit

def flatW (f : Nat → Wn) (n : Nat) : List Value := (List.range (n * 6)).map fun t => Value.int .i64 ((f (t / 6)).at (t % 6))
theorem flatW_len (f : Nat → Wn) (n : Nat) : (flatW f n).length = n * 6 := by simp [flatW]
theorem flatW_at (f : Nat → Wn) (n i j : Nat) (hi : i < n) (hj : j < 6) : (flatW f n)[i * 6 + j]? = some (.int .i64 ((f i).at j)) := by
  have hl : i * 6 + j < n * 6 := by omega
  unfold flatW
  rw [List.getElem?_map, List.getElem?_range hl]
  show some (Value.int .i64 ((f ((i * 6 + j) / 6)).at ((i * 6 + j) % 6))) = _
  rw [show (i * 6 + j) / 6 = i by omega, show (i * 6 + j) % 6 = j by omega]
theorem flatW_succ (f : Nat → Wn) (n : Nat) : flatW f (n + 1) = flatW f n ++ (f n).cells := by
  apply List.ext_getElem?
  intro t
  by_cases h : t < n * 6
  · rw [List.getElem?_append_left (by rw [flatW_len]; exact h)]
    have e : t / 6 * 6 + t % 6 = t := by omega
    have h1 := flatW_at f (n + 1) (t / 6) (t % 6) (by omega) (by omega)
    have h2 := flatW_at f n (t / 6) (t % 6) (by omega) (by omega)
    rw [e] at h1 h2
    rw [h1, h2]
  · rw [List.getElem?_append_right (by rw [flatW_len]; omega), flatW_len]
    by_cases h2 : t < (n + 1) * 6
    · have h1 := flatW_at f (n + 1) n (t - n * 6) (by omega) (by omega)
      rw [show n * 6 + (t - n * 6) = t by omega] at h1
      rw [h1]
      obtain ⟨j, hj, hj6⟩ : ∃ j, t - n * 6 = j ∧ j < 6 := ⟨_, rfl, by omega⟩
      rw [hj]
      match j, hj6 with
      | 0, _ => rfl
      | 1, _ => rfl
      | 2, _ => rfl
      | 3, _ => rfl
      | 4, _ => rfl
      | 5, _ => rfl
    · rw [List.getElem?_eq_none (by rw [flatW_len]; omega), List.getElem?_eq_none (by show 6 ≤ t - n * 6; omega)]
theorem copyWines_own (n cp b off : Nat) (f : Nat → Wn) (w : World) (h0 : 0 < n) (hn : n ≤ 1000)
    (hc : ∀ i j, i < n → j < 6 → w.cell? ⟨b, off + i * 6 + j, none⟩ = some (.int .i64 ((f i).at j))) :
    Calls Try.prog 10 #[.slice (some ⟨b, off, none⟩) n cp] w fun e w' => (∃ (g cb : Nat), e = .returned (.slice (some ⟨g, 0, none⟩) n cb) ∧ w'.ownsRow w.heap.size 27 6 (.slice (some ⟨g, 0, none⟩) n cb) n (flatW f n)) ∧ Below w.heap.size w w' := by
  obtain ⟨i0, hi, hz0, hz1, hz2⟩ := info_parts copyWines_anyInfo
  have HC := Lib.hid hc
  clear hc
  go_enter Try.func10, Try.ntmps10
  go_wp2_with (at_builtin; refine wpList_append_grows _ rfl (.tmp 3) (.tmp 4) 22 rfl 27 i0 (.agg #[.int .i64 0, .int .i64 0, .int .i64 0, .int .i64 0, .int .i64 0, .int .i64 0]) 6 48 Try.underlying22 hi hz0 hz1 hz2 rfl (by decide) (some ⟨w.heap.size, 0, none⟩) 0 0 [] rfl (fun h => by cases h) rfl (by intro _ _ _ _ h; simp at h) ⟨b, off, none⟩ n cp (flatW f n) rfl (flatW_len f n) ?c1 ?c2 (by omega) (by unfold maxLen; omega) (by omega) ?grow)
  case c1 =>
    intro j u hj
    have hl : j < n * 6 := by have := (List.getElem?_eq_some_iff.1 hj).1; rw [flatW_len] at this; exact this
    have h2 := flatW_at f n (j / 6) (j % 6) (by omega) (by omega)
    rw [show j / 6 * 6 + j % 6 = j by omega, hj] at h2
    obtain rfl := Option.some.inj h2
    have := HC.out (j / 6) (j % 6) (by omega) (by omega)
    rw [show off + j / 6 * 6 + j % 6 = off + j by omega] at this
    exact keepC ((Below.refl _ w).alloc (Nat.le_refl _) _) (by first | exact this | (rw [Addr.add_lit]; exact this) | (simp only [Addr.add]; exact this))
  case c2 =>
    intro u hu
    obtain ⟨t, _, rfl⟩ := List.mem_map.1 hu
    rfl
  case grow =>
    intro v' w' hown hgrow
    obtain ⟨g, cb, rfl⟩ : ∃ g cap, v' = .slice (some ⟨g, 0, none⟩) n cap := by
      rcases hown.2 with ⟨_, h⟩ | ⟨g, cap, _, e, _⟩
      · omega
      · exact ⟨g, cap, e⟩
    go_wp2
    go_ret
    refine ⟨⟨g, _, rfl, ?_⟩, ?_⟩
    · have h1 := World.ownsRow.mono hown (base' := w.heap.size) (by first | omega | (rw [World.size_alloc]; omega))
      simpa using h1
    · exact ((Below.refl _ w).alloc (Nat.le_refl _) _).grown hgrow (by simp) (fun k e => by cases e)
end Go.Proofs.Ytbijhcoloajjaaa

/- FlorMixedTrue: the law's walk. -/
namespace Go.Proofs.Ytbijhcoloajjaaa
open Go.RowKit

theorem rowCells {w : World} {B g n cb : Nat} {f : Nat → Wn} (h : w.ownsRow B 27 6 (.slice (some ⟨g, 0, none⟩) n cb) n (flatW f n)) : ∀ i j, i < n → j < 6 → w.cell? ⟨g, 0 + i * 6 + j, none⟩ = some (.int .i64 ((f i).at j)) := fun i j hi hj => by
  rw [Nat.zero_add]
  exact (h.cellAt _ (by omega)).trans (flatW_at f n i j hi hj)
theorem mixR_cases {f : Nat → Wn} {n : Nat} (hv : ∀ i, i < n → (f i).err = 0) : (∃ e, e ≠ 0 ∧ mixR f n = .tuple #[.agg #[.int .i64 0, .int .i64 0, .int .i64 0, .int .i64 0, .int .i64 0, .int .i64 0], .int .i64 e]) ∨ (mixV f n = 0 ∧ mixR f n = .tuple #[.agg #[.int .i64 (vLo f n), .int .i64 (vHi f n), .int .i64 (loF f Wn.s0 n (choices f n (2 ^ n))), .int .i64 (hiF f Wn.s1 n (choices f n (2 ^ n))), .int .i64 (loF f Wn.c0 n (choices f n (2 ^ n))), .int .i64 (hiF f Wn.c1 n (choices f n (2 ^ n)))], .int .i64 0]) := by
  have hB : mixB f n 0 = 0 := mixB_zero n 0 fun j _ hj => hv j (by omega)
  by_cases h : mixV f n = 0
  · exact .inr ⟨h, by rw [mixR, if_neg (by rw [hB]; decide), if_neg (by rw [h]; decide)]⟩
  · exact .inl ⟨mixV f n, h, by rw [mixR, if_neg (by rw [hB]; decide), if_pos h]⟩
def uT (f : Nat → Wn) (t : Nat → Nat → Int) (i : Nat) : Int := (f i).v0 + t i 0 % ((f i).v1 - (f i).v0 + 1)
def sT (f : Nat → Wn) (t : Nat → Nat → Int) (i : Nat) : Int := (f i).s0 + t i 1 % ((f i).s1 - (f i).s0 + 1)
def cT (f : Nat → Wn) (t : Nat → Nat → Int) (i : Nat) : Int := (f i).c0 + t i 2 % ((f i).c1 - (f i).c0 + 1)
def frT (f : Nat → Wn) (n : Nat) (i : Nat) : Wn := f (n - 1 - i)
theorem su_bd {F : Nat → Int} {M : Int} : ∀ n, (∀ i, i < n → 0 ≤ F i ∧ F i ≤ M) → 0 ≤ Su F n ∧ Su F n ≤ M * (n : Int)
  | 0, _ => by simp [Su]
  | m + 1, h => by
    have h1 := su_bd m (fun i hi => h i (by omega))
    have h2 := h m (by omega)
    have e : M * ((m + 1 : Nat) : Int) = M * (m : Int) + M := by rw [Int.natCast_succ, Int.mul_add, Int.mul_one]
    rw [Su, e]
    omega
theorem pr_bd {a b A B : Int} (a0 : 0 ≤ a) (a1 : a ≤ A) (b0 : 0 ≤ b) (b1 : b ≤ B) : 0 ≤ a * b ∧ a * b ≤ A * B := ⟨Int.mul_nonneg a0 b0, Int.mul_le_mul a1 b1 b0 (by omega)⟩
theorem true_bds {f : Nat → Wn} {t : Nat → Nat → Int} {i : Nat} (h : (f i).err = 0) : ((f i).v0 ≤ uT f t i ∧ uT f t i ≤ (f i).v1) ∧ ((f i).s0 ≤ sT f t i ∧ sT f t i ≤ (f i).s1) ∧ ((f i).c0 ≤ cT f t i ∧ cT f t i ≤ (f i).c1) := by
  obtain ⟨⟨a0, a1, a2⟩, ⟨b0, b1, b2⟩, ⟨d0, d1, d2⟩⟩ := wineE_zero.1 h
  exact ⟨pick_bd _ _ _ a1, pick_bd _ _ _ b1, pick_bd _ _ _ d1⟩
theorem true_bd2 {f : Nat → Wn} {t : Nat → Nat → Int} {i : Nat} (h : (f i).err = 0) : (0 ≤ uT f t i ∧ uT f t i ≤ 100000) ∧ (0 ≤ sT f t i ∧ sT f t i ≤ 10000) ∧ (0 ≤ cT f t i ∧ cT f t i ≤ 100000) := by
  have h1 := true_bds (t := t) h
  obtain ⟨⟨a0, a1, a2⟩, ⟨b0, b1, b2⟩, ⟨d0, d1, d2⟩⟩ := wineE_zero.1 h
  omega
theorem sums_bd {f : Nat → Wn} {t : Nat → Nat → Int} {n : Nat} (hv : ∀ i, i < n → (f i).err = 0) : ∀ r, r ≤ n → (0 ≤ Su (uT f t) r ∧ Su (uT f t) r ≤ 100000 * (r : Int)) ∧ (0 ≤ Su (fun i => uT f t i * sT f t i) r ∧ Su (fun i => uT f t i * sT f t i) r ≤ 1000000000 * (r : Int)) ∧ (0 ≤ Su (fun i => uT f t i * cT f t i) r ∧ Su (fun i => uT f t i * cT f t i) r ≤ 10000000000 * (r : Int)) := fun r hr => by
  refine ⟨su_bd r fun i hi => (true_bd2 (hv i (by omega))).1, su_bd r fun i hi => ?_, su_bd r fun i hi => ?_⟩
  · obtain ⟨⟨u0, u1⟩, ⟨s0, s1⟩, -⟩ := true_bd2 (t := t) (hv i (by omega))
    exact pr_bd u0 u1 s0 s1
  · obtain ⟨⟨u0, u1⟩, -, ⟨c0, c1⟩⟩ := true_bd2 (t := t) (hv i (by omega))
    exact pr_bd u0 u1 c0 c1
def extT (f : Nat → Wn) (n : Nat) (i : Nat) : Wn := if i = n then ⟨0, 0, 10000, 10000, 5, 5⟩ else f i
theorem extT_old (f : Nat → Wn) {n i : Nat} (h : i < n) : extT f n i = f i := if_neg (by omega)
theorem extT_new (f : Nat → Wn) (n : Nat) : extT f n n = ⟨0, 0, 10000, 10000, 5, 5⟩ := if_pos rfl
theorem flatW_congr {f g : Nat → Wn} {n : Nat} (h : ∀ i, i < n → f i = g i) : flatW f n = flatW g n := by
  apply List.ext_getElem?
  intro t
  by_cases ht : t < n * 6
  · have h1 := flatW_at f n (t / 6) (t % 6) (by omega) (by omega)
    have h2 := flatW_at g n (t / 6) (t % 6) (by omega) (by omega)
    rw [show t / 6 * 6 + t % 6 = t by omega] at h1 h2
    rw [h1, h2, h _ (by omega)]
  · rw [List.getElem?_eq_none (by rw [flatW_len]; omega), List.getElem?_eq_none (by rw [flatW_len]; omega)]
theorem flatW_ext (f : Nat → Wn) (n : Nat) : flatW (extT f n) (n + 1) = flatW f n ++ [.int .i64 0, .int .i64 0, .int .i64 10000, .int .i64 10000, .int .i64 5, .int .i64 5] := by
  rw [flatW_succ, extT_new, flatW_congr (f := extT f n) (g := f) (fun i hi => extT_old f hi)]
  rfl
theorem mixR_ext {f : Nat → Wn} {n : Nat} (hv : ∀ i, i < n → (f i).err = 0) : mixR (extT f n) (n + 1) = mixR f n :=
  mixR_more (fun i hi => extT_old f hi) (by rw [extT_new]) (by rw [extT_new]) hv (by rw [extT_new]; decide)
set_option linter.unusedVariables false in
set_option linter.unusedSimpArgs false in
set_option maxRecDepth 100000 in
set_option maxHeartbeats 8000000 in
theorem mixtrue_some (f : Nat → Wn) (t : Nat → Nat → Int) (b off n cp d od m cq : Nat) (w : World) (h0 : 0 < n) (hn : n ≤ 8) (hnm : n ≤ m) (hA : ∀ w : World, Calls Try.prog 8 #[] w fun e w' => e = .returned (.bool true) ∧ Below w.heap.size w w')
    (hc : ∀ i j, i < n → j < 6 → w.cell? ⟨b, off + i * 6 + j, none⟩ = some (.int .i64 ((f i).at j))) (ht : ∀ i j, i < n → j < 5 → w.cell? ⟨d, od + i * 5 + j, none⟩ = some (.int .i64 (t i j))) :
    Calls Try.prog 4 #[.slice (some ⟨b, off, none⟩) n cp, .slice (some ⟨d, od, none⟩) m cq] w fun e w' => e = .returned (.bool true) ∧ Below w.heap.size w w' := by
  have HA := Lib.hid hA
  have HC := Lib.hid hc
  have HT := Lib.hid ht
  clear hA hc ht
  have hn1 : (0 : Int) < (n : Int) := by omega
  have hn2 : (n : Int) ≤ 8 := by omega
  have hn3 : ((n : Int) == 0) = false := by simp; omega
  have hn4 : decide (m < n) = false := by simp; omega
  have hn5 : decide ((8 : Int) < (n : Int)) = false := by simp; omega
  clear hn2
  go_enter Try.func4, Try.ntmps4
  go_upto_region 3 with (go_at_call 8; refine (HA.out _).mono ?_; rintro e w1 ⟨rfl, hb1⟩)
  refine nameWorld (fun w' => Below w.heap.size w w') hb1 (fun wc hB => ?_)
  clear hb1 HA
  go_wp2_with fail
  go_loopw [5] (fun i wr => ∃ (k : Nat), (k ≤ n ∧ i = .int .i64 k) ∧ Hid (∀ j, j < k → (f j).err = 0) ∧ Below w.heap.size w wr)
    (fun i _ => n - (intOf i).toNat)
  case atStart => exact ⟨0, ⟨Nat.zero_le _, rfl⟩, Lib.hid (fun j h => absurd h (Nat.not_lt_zero _)), hB⟩
  case round =>
    clear hB
    obtain ⟨k, ⟨hk, rfl⟩, HE, hB⟩ := hrel
    by_cases hlt : k < n
    · obtain ⟨⟨x0, x1, x2, x3, x4, x5⟩, hx⟩ : ∃ x, f k = x := ⟨_, rfl⟩
      have d0 := keepC hB (HC.out k 0 hlt (by decide))
      rw [hx] at d0
      rw [Nat.add_zero] at d0
      dsimp only [Wn.at] at d0
      have d1 := keepC hB (HC.out k 1 hlt (by decide))
      rw [hx] at d1
      dsimp only [Wn.at] at d1
      have d2 := keepC hB (HC.out k 2 hlt (by decide))
      rw [hx] at d2
      dsimp only [Wn.at] at d2
      have d3 := keepC hB (HC.out k 3 hlt (by decide))
      rw [hx] at d3
      dsimp only [Wn.at] at d3
      have d4 := keepC hB (HC.out k 4 hlt (by decide))
      rw [hx] at d4
      dsimp only [Wn.at] at d4
      have d5 := keepC hB (HC.out k 5 hlt (by decide))
      rw [hx] at d5
      dsimp only [Wn.at] at d5
      obtain ⟨ee, hee⟩ : ∃ e, wineE x0 x1 x2 x3 x4 x5 = e := ⟨_, rfl⟩
      have HE0 := Lib.hid hee
      have HX := Lib.hid hx
      clear hx hee
      have hk0 : (0 : Int) ≤ (k : Int) := by omega
      have hk1 : (k : Int) < (n : Int) := by omega
      by_cases hz : ee = 0
      · have hnz : (ee != 0) = false := by rw [hz]; rfl
        have HD := Lib.hid hz
        clear hz
        go_wp2_with (go_at_call 12; refine (checkWine_any _ _ _ _ _ _ _).mono ?_; rintro e w1 ⟨rfl, hb1⟩; rw [HE0.out])
        go_roundw
        case rel => exact ⟨k + 1, ⟨by omega, by first | rfl | go_num⟩, Lib.hid (fun j hj => by by_cases e : j = k; (rw [e, HX.out]; show wineE _ _ _ _ _ _ = 0; rw [HE0.out, HD.out]); exact HE.out j (by omega)), belowSeq hb1 hB⟩
        case measure => simp [intOf]; omega
      · have hnz : (ee != 0) = true := by simp [hz]
        clear hz
        go_wp2_with (go_at_call 12; refine (checkWine_any _ _ _ _ _ _ _).mono ?_; rintro e w1 ⟨rfl, hb1⟩; rw [HE0.out])
        go_ret
        exact ⟨rfl, belowSeq hb1 hB⟩
    · obtain rfl : k = n := by omega
      clear hlt hk
      have HV := Lib.hid HE.out
      clear HE
      have HCP : Hid (∀ w' : World, Below w.heap.size w w' → Calls Try.prog 10 #[.slice (some ⟨b, off, none⟩) k cp] w' fun e w'' => (∃ (g cb : Nat), e = .returned (.slice (some ⟨g, 0, none⟩) k cb) ∧ w''.ownsRow w'.heap.size 27 6 (.slice (some ⟨g, 0, none⟩) k cb) k (flatW f k)) ∧ Below w'.heap.size w' w'') := Lib.hid fun w' h => copyWines_own k cp b off f w' h0 (by omega) (fun i j hi hj => keepC h (HC.out i j hi hj))
      rcases mixR_cases HV.out with ⟨ee, hne, hm⟩ | ⟨hmv, hm⟩
      · have hnz : (ee != 0) = true := by simp [hne]
        have HMX : Hid (∀ (g cb : Nat) (w' : World), (∀ i j, i < k → j < 6 → w'.cell? ⟨g, 0 + i * 6 + j, none⟩ = some (.int .i64 ((f i).at j))) → Calls Try.prog 9 #[.slice (some ⟨g, 0, none⟩) (k) cb] w' fun e w'' => e = .returned (.tuple #[.agg #[.int .i64 0, .int .i64 0, .int .i64 0, .int .i64 0, .int .i64 0, .int .i64 0], .int .i64 ee]) ∧ Below w'.heap.size w' w'') := Lib.hid fun g cb w' hcl => by
          have := mixed_some f g 0 (k) cb w' (by omega) (by omega) hcl
          rw [hm] at this
          exact this
        clear hne hm
        go_wp2_with (first | (go_at_call 10; (with_reducible refine Calls.mono (HCP.out _ hB) ?_); rintro e w2 ⟨⟨g2, cb, rfl, hrow⟩, hb2⟩) | (go_at_call 9; (with_reducible refine Calls.mono (HMX.out _ _ _ (rowCells hrow)) ?_); rintro e w3 ⟨rfl, hb3⟩))
        go_ret
        exact ⟨rfl, belowSeq (belowSq (belowSq hb2 hb3) ((Below.refl _ w3).alloc (Nat.le_refl _) (.cells #[.int .i64 0, .int .i64 0, .int .i64 0, .int .i64 0, .int .i64 0, .int .i64 0] 27))) hB⟩
      · obtain ⟨m0, hm0⟩ : ∃ x, vLo f k = x := ⟨_, rfl⟩
        obtain ⟨m1, hm1⟩ : ∃ x, vHi f k = x := ⟨_, rfl⟩
        obtain ⟨m2, hm2⟩ : ∃ x, loF f Wn.s0 k (choices f k (2 ^ k)) = x := ⟨_, rfl⟩
        obtain ⟨m3, hm3⟩ : ∃ x, hiF f Wn.s1 k (choices f k (2 ^ k)) = x := ⟨_, rfl⟩
        obtain ⟨m4, hm4⟩ : ∃ x, loF f Wn.c0 k (choices f k (2 ^ k)) = x := ⟨_, rfl⟩
        obtain ⟨m5, hm5⟩ : ∃ x, hiF f Wn.c1 k (choices f k (2 ^ k)) = x := ⟨_, rfl⟩
        rw [hm0, hm1, hm2, hm3, hm4, hm5] at hm
        have HMW := Lib.hid (And.intro hm0 (And.intro hm1 (And.intro hm2 (And.intro hm3 (And.intro hm4 hm5)))))
        clear hm0 hm1 hm2 hm3 hm4 hm5
        have HM := Lib.hid hm
        have HMX : Hid (∀ (g cb : Nat) (w' : World), (∀ i j, i < k → j < 6 → w'.cell? ⟨g, 0 + i * 6 + j, none⟩ = some (.int .i64 ((f i).at j))) → Calls Try.prog 9 #[.slice (some ⟨g, 0, none⟩) (k) cb] w' fun e w'' => e = .returned (.tuple #[.agg #[.int .i64 m0, .int .i64 m1, .int .i64 m2, .int .i64 m3, .int .i64 m4, .int .i64 m5], .int .i64 0]) ∧ Below w'.heap.size w' w'') := Lib.hid fun g cb w' hcl => by
          have := mixed_some f g 0 (k) cb w' (by omega) (by omega) hcl
          rw [hm] at this
          exact this
        clear hm
        go_upto_region 11 with (first | (go_at_call 10; (with_reducible refine Calls.mono (HCP.out _ hB) ?_); rintro e w2 ⟨⟨g2, cb, rfl, hrow⟩, hb2⟩) | (go_at_call 9; (with_reducible refine Calls.mono (HMX.out _ _ _ (rowCells hrow)) ?_); rintro e w3 ⟨rfl, hb3⟩))
        have hbw := belowSq (belowSq hb2 hb3) ((Below.refl _ w3).alloc (Nat.le_refl _) (.cells #[.int .i64 m0, .int .i64 m1, .int .i64 m2, .int .i64 m3, .int .i64 m4, .int .i64 m5] 27))
        obtain ⟨BX, hBX⟩ : ∃ B, w3.heap.size = B := ⟨_, rfl⟩
        have hBw : w.heap.size ≤ BX := by have h1 := hB.size; have h2 := hb2.size; have h3 := hb3.size; omega
        rw [hBX]
        refine nameWorld (fun w' => w'.cell? ⟨BX, 0, none⟩ = some (.int .i64 m0) ∧ w'.cell? ⟨BX, 1, none⟩ = some (.int .i64 m1) ∧ w'.cell? ⟨BX, 2, none⟩ = some (.int .i64 m2) ∧ w'.cell? ⟨BX, 3, none⟩ = some (.int .i64 m3) ∧ w'.cell? ⟨BX, 4, none⟩ = some (.int .i64 m4) ∧ w'.cell? ⟨BX, 5, none⟩ = some (.int .i64 m5) ∧ BX < w'.heap.size ∧ Below w.heap.size w w') ⟨(newBoth hBX (Below.refl _ _) 0 _ rfl).1, (newBoth hBX (Below.refl _ _) 1 _ rfl).1, (newBoth hBX (Below.refl _ _) 2 _ rfl).1, (newBoth hBX (Below.refl _ _) 3 _ rfl).1, (newBoth hBX (Below.refl _ _) 4 _ rfl).1, (newBoth hBX (Below.refl _ _) 5 _ rfl).1, by rw [World.size_alloc]; omega, belowSeq hbw hB⟩ (fun wd hd => ?_)
        clear hbw hb2 hb3 hBX hrow hB HMX
        obtain ⟨q0, q1, q2, q3, q4, q5, hsX, hB⟩ := hd
        go_wp2_with fail
        obtain ⟨i0, hi, hz0, hz1, hz2⟩ := info_parts copyWines_anyInfo
        go_loopw [12, 8, 9, 10, 11] (fun i sa ss sc v wr => ∃ (r : Nat) (tv : Value), (r ≤ k ∧ i = .int .i64 r ∧ sa = .int .i64 (Su (uT f t) r) ∧ ss = .int .i64 (Su (fun i => uT f t i * sT f t i) r) ∧ sc = .int .i64 (Su (fun i => uT f t i * cT f t i) r) ∧ v = tv) ∧ wr.cell? ⟨BX, 0, none⟩ = some (.int .i64 m0) ∧ wr.cell? ⟨BX, 1, none⟩ = some (.int .i64 m1) ∧ wr.cell? ⟨BX, 2, none⟩ = some (.int .i64 m2) ∧ wr.cell? ⟨BX, 3, none⟩ = some (.int .i64 m3) ∧ wr.cell? ⟨BX, 4, none⟩ = some (.int .i64 m4) ∧ wr.cell? ⟨BX, 5, none⟩ = some (.int .i64 m5) ∧ wr.ownsRow (BX + 1) 27 6 (tv) (r) (flatW (frT f k) (r)) ∧ BX < wr.heap.size ∧ Below w.heap.size w wr)
          (fun i _ _ _ _ _ => k - (intOf i).toNat)
        case atStart => exact ⟨0, _, ⟨Nat.zero_le _, rfl, rfl, rfl, rfl, rfl⟩, q0, q1, q2, q3, q4, q5, World.ownsRow_nil _ _ _ _, hsX, hB⟩
        case round =>
          clear q0 q1 q2 q3 q4 q5 hsX hB
          obtain ⟨r, tv, ⟨hr, rfl, rfl, rfl, rfl, rfl⟩, q0, q1, q2, q3, q4, q5, hrow, hsX, hB⟩ := hrel
          by_cases hlt : r < k
          · obtain ⟨⟨x0, x1, x2, x3, x4, x5⟩, hx⟩ : ∃ x, f r = x := ⟨_, rfl⟩
            have d0 := keepC hB (HC.out r 0 hlt (by decide))
            rw [hx] at d0
            rw [Nat.add_zero] at d0
            dsimp only [Wn.at] at d0
            have d1 := keepC hB (HC.out r 1 hlt (by decide))
            rw [hx] at d1
            dsimp only [Wn.at] at d1
            have d2 := keepC hB (HC.out r 2 hlt (by decide))
            rw [hx] at d2
            dsimp only [Wn.at] at d2
            have d3 := keepC hB (HC.out r 3 hlt (by decide))
            rw [hx] at d3
            dsimp only [Wn.at] at d3
            have d4 := keepC hB (HC.out r 4 hlt (by decide))
            rw [hx] at d4
            dsimp only [Wn.at] at d4
            have d5 := keepC hB (HC.out r 5 hlt (by decide))
            rw [hx] at d5
            dsimp only [Wn.at] at d5
            obtain ⟨y0, hy0⟩ : ∃ y, t r 0 = y := ⟨_, rfl⟩
            have T0 := keepC hB (HT.out r 0 hlt (by decide))
            rw [hy0, Nat.add_zero] at T0
            obtain ⟨y1, hy1⟩ : ∃ y, t r 1 = y := ⟨_, rfl⟩
            have T1 := keepC hB (HT.out r 1 hlt (by decide))
            rw [hy1] at T1
            obtain ⟨y2, hy2⟩ : ∃ y, t r 2 = y := ⟨_, rfl⟩
            have T2 := keepC hB (HT.out r 2 hlt (by decide))
            rw [hy2] at T2
            have hbd := true_bd2 (t := t) (HV.out r hlt)
            have hsm := sums_bd (t := t) HV.out r hr
            have hxe : (Wn.err ⟨x0, x1, x2, x3, x4, x5⟩) = 0 := hx ▸ HV.out r hlt
            obtain ⟨⟨a0, a1, a2⟩, ⟨b0, b1, b2⟩, ⟨g0, g1, g2⟩⟩ := wineE_zero.1 hxe
            dsimp only at a0 a1 a2 b0 b1 b2 g0 g1 g2
            obtain ⟨U, hU⟩ : ∃ z, uT f t r = z := ⟨_, rfl⟩
            have eU : x0 + y0 % (x1 - x0 + 1) = U := by rw [← hU, uT, hx, hy0]
            obtain ⟨S, hS⟩ : ∃ z, sT f t r = z := ⟨_, rfl⟩
            have eS : x2 + y1 % (x3 - x2 + 1) = S := by rw [← hS, sT, hx, hy1]
            obtain ⟨C, hC⟩ : ∃ z, cT f t r = z := ⟨_, rfl⟩
            have eC : x4 + y2 % (x5 - x4 + 1) = C := by rw [← hC, cT, hx, hy2]
            have HP0 : Hid (∀ w' : World, Calls Try.prog 13 #[.agg #[.int .i64 x0, .int .i64 x1], .int .i64 y0] w' fun e w'' => e = .returned (.int .i64 U) ∧ Below w'.heap.size w' w'') := Lib.hid fun w' => by
              have := pick_any x0 x1 y0 w' a0 a1 (by omega)
              rw [eU] at this
              exact this
            have HP1 : Hid (∀ w' : World, Calls Try.prog 13 #[.agg #[.int .i64 x2, .int .i64 x3], .int .i64 y1] w' fun e w'' => e = .returned (.int .i64 S) ∧ Below w'.heap.size w' w'') := Lib.hid fun w' => by
              have := pick_any x2 x3 y1 w' b0 b1 (by omega)
              rw [eS] at this
              exact this
            have HP2 : Hid (∀ w' : World, Calls Try.prog 13 #[.agg #[.int .i64 x4, .int .i64 x5], .int .i64 y2] w' fun e w'' => e = .returned (.int .i64 C) ∧ Below w'.heap.size w' w'') := Lib.hid fun w' => by
              have := pick_any x4 x5 y2 w' g0 g1 (by omega)
              rw [eC] at this
              exact this
            rw [hU, hS, hC] at hbd
            obtain ⟨⟨U0, U1⟩, ⟨S0, S1⟩, ⟨C0, C1⟩⟩ := hbd
            obtain ⟨A, hA9⟩ : ∃ z, Su (uT f t) r = z := ⟨_, rfl⟩
            obtain ⟨AS, hAS⟩ : ∃ z, Su (fun i => uT f t i * sT f t i) r = z := ⟨_, rfl⟩
            obtain ⟨AC, hAC⟩ : ∃ z, Su (fun i => uT f t i * cT f t i) r = z := ⟨_, rfl⟩
            rw [hA9, hAS, hAC] at hsm ⊢
            obtain ⟨⟨A0, A1⟩, ⟨AS0, AS1⟩, ⟨AC0, AC1⟩⟩ := hsm
            have HSA : Hid (Su (uT f t) (r + 1) = A + U ∧ Su (fun i => uT f t i * sT f t i) (r + 1) = AS + U * S ∧ Su (fun i => uT f t i * cT f t i) (r + 1) = AC + U * C) := Lib.hid ⟨by rw [Su, hA9, hU], by rw [Su, hAS, hU, hS], by rw [Su, hAC, hU, hC]⟩
            obtain ⟨p0, p1⟩ := pr_bd U0 U1 S0 S1
            obtain ⟨p2, p3⟩ := pr_bd U0 U1 C0 C1
            have u0 : IntKind.i64.wrap (A + U) = A + U := IntWalk.i64_in _ (by omega)
            have u1 : IntKind.i64.wrap (U * S) = U * S := IntWalk.i64_in _ (by omega)
            have u2 : IntKind.i64.wrap (AS + U * S) = AS + U * S := IntWalk.i64_in _ (by omega)
            have u3 : IntKind.i64.wrap (U * C) = U * C := IntWalk.i64_in _ (by omega)
            have u4 : IntKind.i64.wrap (AC + U * C) = AC + U * C := IntWalk.i64_in _ (by omega)
            obtain ⟨j, hj⟩ : ∃ j, k - 1 - r = j := ⟨_, rfl⟩
            have hjk : j < k := by omega
            have w0 : IntKind.i64.wrap ((k : Int) - 1) = (k : Int) - 1 := IntWalk.i64_in _ (by omega)
            have w5 : IntKind.i64.wrap ((k : Int) - 1 - (r : Int)) = (j : Int) := by rw [show (k : Int) - 1 - (r : Int) = (j : Int) by omega]; exact IntWalk.i64_in _ (by omega)
            obtain ⟨⟨v0, v1, v2, v3, v4, v5⟩, hv⟩ : ∃ x, f j = x := ⟨_, rfl⟩
            have e0 := keepC hB (HC.out j 0 hjk (by decide))
            rw [hv] at e0
            rw [Nat.add_zero] at e0
            dsimp only [Wn.at] at e0
            have e1 := keepC hB (HC.out j 1 hjk (by decide))
            rw [hv] at e1
            dsimp only [Wn.at] at e1
            have e2 := keepC hB (HC.out j 2 hjk (by decide))
            rw [hv] at e2
            dsimp only [Wn.at] at e2
            have e3 := keepC hB (HC.out j 3 hjk (by decide))
            rw [hv] at e3
            dsimp only [Wn.at] at e3
            have e4 := keepC hB (HC.out j 4 hjk (by decide))
            rw [hv] at e4
            dsimp only [Wn.at] at e4
            have e5 := keepC hB (HC.out j 5 hjk (by decide))
            rw [hv] at e5
            dsimp only [Wn.at] at e5
            have HFR : Hid (flatW (frT f k) (r + 1) = flatW (frT f k) r ++ [.int .i64 v0, .int .i64 v1, .int .i64 v2, .int .i64 v3, .int .i64 v4, .int .i64 v5]) := Lib.hid (by rw [flatW_succ, frT, hj, hv]; rfl)
            clear hx hy0 hy1 hy2 hxe hU hS hC eU eS eC a0 a1 a2 b0 b1 b2 g0 g1 g2 hA9 hAS hAC p0 p1 p2 p3 U0 U1 S0 S1 C0 C1 A0 A1 AS0 AS1 AC0 AC1 hv
            have hr0 : (0 : Int) ≤ (r : Int) := by omega
            have hr1 : (r : Int) < (k : Int) := by omega
            have hr2 : (r : Int) < (m : Int) := by omega
            have hj0 : (0 : Int) ≤ (j : Int) := by omega
            have hj1 : (j : Int) < (k : Int) := by omega
            clear hj hjk
            go_wp2_with fail
            refine regionX 11 0 [] [] (by kernel_rfl) (by kernel_rfl) (by kernel_rfl) (by kernel_rfl) (by decide) (fun _ _ d _ _ h => by cases d <;> exact h) ?_
            intro R hR
            simp only [List.take_succ_cons, List.take_zero]
            iterate 11 (first | (refine headP_val ?_ (by rfl) (by rfl) (fun w' hw' => ?_) ?_; rotate_left; (focus (have y0 := keepC hw' d0; have y1 := keepC hw' d1; have y2 := keepC hw' T0; first | (refine onlyMakes_val ?_; first | (go_simp; done) | (go_simp; with_reducible rfl)) | (apply onlyMakes_call; (first | (go_simp; done) | (go_simp; exact ⟨rfl, rfl⟩) | (go_simp; with_reducible rfl)); first | (with_reducible exact HP0.out _)))); (try dsimp only); (try simp only [Act.put, List.setIfInBounds_toArray, List.set_cons_zero, List.set_cons_succ])) | (refine headP_pure ?_ (by rfl) (by rfl) (fun w' => ?_) ?_; rotate_left; (focus ((first | (go_simp; done) | (go_simp; with_reducible rfl)))); (try dsimp only); (try simp only [Act.put, List.setIfInBounds_toArray, List.set_cons_zero, List.set_cons_succ])) | (refine headP_skip (by rfl) ?_; (try dsimp only); (try simp only [Act.put, List.setIfInBounds_toArray, List.set_cons_zero, List.set_cons_succ])))
            refine headP_nil (hR.out _ ?_)
            refine AnyZ.last 11 (by kernel_rfl) (by decide) (fun w2 hw2 => ?_)
            refine wpAny_one 11 (by kernel_rfl) rfl rfl ?_
            have hWW := hw2
            have d2 := keepC hWW d2
            have d3 := keepC hWW d3
            have d4 := keepC hWW d4
            have d5 := keepC hWW d5
            have T1 := keepC hWW T1
            have T2 := keepC hWW T2
            have e0 := keepC hWW e0
            have e1 := keepC hWW e1
            have e2 := keepC hWW e2
            have e3 := keepC hWW e3
            have e4 := keepC hWW e4
            have e5 := keepC hWW e5
            have q0 := keepC hWW q0
            have q1 := keepC hWW q1
            have q2 := keepC hWW q2
            have q3 := keepC hWW q3
            have q4 := keepC hWW q4
            have q5 := keepC hWW q5
            have hrow := rowBelowZ hrow hWW
            have hsX := Nat.lt_of_lt_of_le hsX hWW.size
            have hB := belowSeq hWW hB
            clear hR hw2 hWW d0 d1 T0
            (try simp only [List.getElem_toArray, List.getElem_cons_succ, List.getElem_cons_zero])
            (try simp only [Act.put, List.setIfInBounds_toArray, List.set_cons_succ, List.set_cons_zero])
            unfold Oper.wp
            go_simp
            refine wpAny_done (by kernel_rfl) ?_
            go_wp2_with fail
            refine nameWorld (fun w' => w'.cell? ⟨b, off + r * 6 + 2, none⟩ = some (.int .i64 x2) ∧ w'.cell? ⟨b, off + r * 6 + 3, none⟩ = some (.int .i64 x3) ∧ w'.cell? ⟨b, off + r * 6 + 4, none⟩ = some (.int .i64 x4) ∧ w'.cell? ⟨b, off + r * 6 + 5, none⟩ = some (.int .i64 x5) ∧ w'.cell? ⟨d, od + r * 5 + 1, none⟩ = some (.int .i64 y1) ∧ w'.cell? ⟨d, od + r * 5 + 2, none⟩ = some (.int .i64 y2) ∧ w'.cell? ⟨b, off + j * 6, none⟩ = some (.int .i64 v0) ∧ w'.cell? ⟨b, off + j * 6 + 1, none⟩ = some (.int .i64 v1) ∧ w'.cell? ⟨b, off + j * 6 + 2, none⟩ = some (.int .i64 v2) ∧ w'.cell? ⟨b, off + j * 6 + 3, none⟩ = some (.int .i64 v3) ∧ w'.cell? ⟨b, off + j * 6 + 4, none⟩ = some (.int .i64 v4) ∧ w'.cell? ⟨b, off + j * 6 + 5, none⟩ = some (.int .i64 v5) ∧ w'.cell? ⟨BX, 0, none⟩ = some (.int .i64 m0) ∧ w'.cell? ⟨BX, 1, none⟩ = some (.int .i64 m1) ∧ w'.cell? ⟨BX, 2, none⟩ = some (.int .i64 m2) ∧ w'.cell? ⟨BX, 3, none⟩ = some (.int .i64 m3) ∧ w'.cell? ⟨BX, 4, none⟩ = some (.int .i64 m4) ∧ w'.cell? ⟨BX, 5, none⟩ = some (.int .i64 m5) ∧ w'.ownsRow (BX + 1) 27 6 (u11) (r) (flatW (frT f k) (r)) ∧ BX < w'.heap.size ∧ Below w.heap.size w w') ⟨d2, d3, d4, d5, T1, T2, e0, e1, e2, e3, e4, e5, q0, q1, q2, q3, q4, q5, hrow, hsX, hB⟩ (fun we he => ?_)
            clear d2 d3 d4 d5 T1 T2 e0 e1 e2 e3 e4 e5 q0 q1 q2 q3 q4 q5 hrow hsX hB
            obtain ⟨d2, d3, d4, d5, T1, T2, e0, e1, e2, e3, e4, e5, q0, q1, q2, q3, q4, q5, hrow, hsX, hB⟩ := he
            refine regionX 33 0 [0, 1, 2, 3, 4, 16, 17, 18, 19, 31, 32] [] (by kernel_rfl) (by kernel_rfl) (by kernel_rfl) (by kernel_rfl) (by decide) (fun _ _ d _ _ h => by cases d <;> exact h) ?_
            intro R hR
            simp only [List.take_succ_cons, List.take_zero]
            iterate 33 (first | (refine headP_val ?_ (by rfl) (by rfl) (fun w' hw' => ?_) ?_; rotate_left; (focus (have y0 := keepC hw' d2; have y1 := keepC hw' d3; have y2 := keepC hw' d4; have y3 := keepC hw' d5; have y4 := keepC hw' T1; have y5 := keepC hw' T2; first | (refine onlyMakes_val ?_; first | (go_simp; done) | (go_simp; with_reducible rfl)) | (apply onlyMakes_call; (first | (go_simp; done) | (go_simp; exact ⟨rfl, rfl⟩) | (go_simp; with_reducible rfl)); first | (with_reducible exact HP1.out _) | (with_reducible exact HP2.out _)))); (try dsimp only); (try simp only [Act.put, List.setIfInBounds_toArray, List.set_cons_zero, List.set_cons_succ])) | (refine headP_pure ?_ (by rfl) (by rfl) (fun w' => ?_) ?_; rotate_left; (focus ((first | (go_simp; done) | (go_simp; with_reducible rfl)))); (try dsimp only); (try simp only [Act.put, List.setIfInBounds_toArray, List.set_cons_zero, List.set_cons_succ])) | (refine headP_skip (by rfl) ?_; (try dsimp only); (try simp only [Act.put, List.setIfInBounds_toArray, List.set_cons_zero, List.set_cons_succ])))
            refine headP_nil (hR.out _ ?_)
            refine AnyZ.last 33 (by kernel_rfl) (by decide) (fun w2 hw2 => ?_)
            refine wpAny_one 33 (by kernel_rfl) rfl rfl ?_
            have hWW := hw2
            have e0 := keepC hWW e0
            have e1 := keepC hWW e1
            have e2 := keepC hWW e2
            have e3 := keepC hWW e3
            have e4 := keepC hWW e4
            have e5 := keepC hWW e5
            have q0 := keepC hWW q0
            have q1 := keepC hWW q1
            have q2 := keepC hWW q2
            have q3 := keepC hWW q3
            have q4 := keepC hWW q4
            have q5 := keepC hWW q5
            have hrow := rowBelowZ hrow hWW
            have hsX := Nat.lt_of_lt_of_le hsX hWW.size
            have hB := belowSeq hWW hB
            clear hR hw2 hWW d2 d3 d4 d5 T1 T2
            (try simp only [List.getElem_toArray, List.getElem_cons_succ, List.getElem_cons_zero])
            (try simp only [Act.put, List.setIfInBounds_toArray, List.set_cons_succ, List.set_cons_zero])
            unfold Oper.wp
            go_simp
            refine wpAny_one 34 (by kernel_rfl) rfl rfl ?_
            (try simp only [List.getElem_toArray, List.getElem_cons_succ, List.getElem_cons_zero])
            (try simp only [Act.put, List.setIfInBounds_toArray, List.set_cons_succ, List.set_cons_zero])
            unfold Oper.wp
            go_simp
            refine wpAny_one 35 (by kernel_rfl) rfl rfl ?_
            (try simp only [List.getElem_toArray, List.getElem_cons_succ, List.getElem_cons_zero])
            (try simp only [Act.put, List.setIfInBounds_toArray, List.set_cons_succ, List.set_cons_zero])
            unfold Oper.wp
            go_simp
            refine wpAny_done (by kernel_rfl) ?_
            go_upto_region 20 with fail
            refine nameWorld (fun w' => w'.cell? ⟨b, off + j * 6, none⟩ = some (.int .i64 v0) ∧ w'.cell? ⟨b, off + j * 6 + 1, none⟩ = some (.int .i64 v1) ∧ w'.cell? ⟨b, off + j * 6 + 2, none⟩ = some (.int .i64 v2) ∧ w'.cell? ⟨b, off + j * 6 + 3, none⟩ = some (.int .i64 v3) ∧ w'.cell? ⟨b, off + j * 6 + 4, none⟩ = some (.int .i64 v4) ∧ w'.cell? ⟨b, off + j * 6 + 5, none⟩ = some (.int .i64 v5) ∧ w'.cell? ⟨BX, 0, none⟩ = some (.int .i64 m0) ∧ w'.cell? ⟨BX, 1, none⟩ = some (.int .i64 m1) ∧ w'.cell? ⟨BX, 2, none⟩ = some (.int .i64 m2) ∧ w'.cell? ⟨BX, 3, none⟩ = some (.int .i64 m3) ∧ w'.cell? ⟨BX, 4, none⟩ = some (.int .i64 m4) ∧ w'.cell? ⟨BX, 5, none⟩ = some (.int .i64 m5) ∧ w'.ownsRow (BX + 1) 27 6 (u11) (r) (flatW (frT f k) (r)) ∧ BX < w'.heap.size ∧ Below w.heap.size w w') ⟨e0, e1, e2, e3, e4, e5, q0, q1, q2, q3, q4, q5, hrow, hsX, hB⟩ (fun we he => ?_)
            clear e0 e1 e2 e3 e4 e5 q0 q1 q2 q3 q4 q5 hrow hsX hB
            obtain ⟨e0, e1, e2, e3, e4, e5, q0, q1, q2, q3, q4, q5, hrow, hsX, hB⟩ := he
            have hle : w.heap.size ≤ we.heap.size := hB.size
            go_wp2_with (at_builtin; refine wpList_append_lies _ rfl (.tmp 108) (.tmp 117) 22 rfl (BX + 1) 27 i0 (.agg #[.int .i64 0, .int .i64 0, .int .i64 0, .int .i64 0, .int .i64 0, .int .i64 0]) 6 48 Try.underlying22 hi hz0 hz1 hz2 rfl (by decide) _ r (flatW (frT f k) r) rfl (hrow.alloc _) ⟨we.heap.size, 0, none⟩ 1 1 [.int .i64 v0, .int .i64 v1, .int .i64 v2, .int .i64 v3, .int .i64 v4, .int .i64 v5] rfl rfl ?n1 ?n2 (by decide) (by unfold maxLen; omega) (by omega) (by rw [World.size_alloc]; omega) _ rfl ?grow)
            first
            | (case n1 => exact fun j u h => World.news_of_block (heap_alloc_new we _) j u h)
            | skip
            case n2 => exact fun u hu => by simp at hu; rcases hu with rfl | rfl | rfl | rfl | rfl | rfl <;> rfl
            case grow =>
              intro g cap w9 hown9 hgrow hat hlt9
              have hal := (Below.refl we.heap.size we).alloc (Nat.le_refl _) (.cells #[.int .i64 v0, .int .i64 v1, .int .i64 v2, .int .i64 v3, .int .i64 v4, .int .i64 v5] 27)
              have far : ∀ i, w9.cell? ⟨BX, i, none⟩ = (we.alloc _).cell? ⟨BX, i, none⟩ := fun i => hgrow.cell_far _ (by rw [World.size_alloc]; exact Nat.lt_succ_of_lt hsX) (fun e => by have h1 : BX + 1 ≤ BX := (hrow.lt _ e.symm).1; omega)
              have hB9 : Below w.heap.size w w9 := (hB.alloc hle _).grown hgrow (by rw [World.size_alloc]; omega) (fun j e => by have := (hrow.lt _ e).1; omega)
              have Q0 := (far 0).trans (keepC hal q0)
              have Q1 := (far 1).trans (keepC hal q1)
              have Q2 := (far 2).trans (keepC hal q2)
              have Q3 := (far 3).trans (keepC hal q3)
              have Q4 := (far 4).trans (keepC hal q4)
              have Q5 := (far 5).trans (keepC hal q5)
              have hs9 : BX < w9.heap.size := World.block_lt_of_cell? w9 _ Q0
              rw [← HFR.out] at hown9
              clear hal far hgrow hB hrow hsX hle e0 e1 e2 e3 e4 e5 q0 q1 q2 q3 q4 q5
              go_wp2_with fail
              go_roundw
              case rel => exact ⟨r + 1, _, ⟨by omega, by first | rfl | go_num, by rw [HSA.out.1], by rw [HSA.out.2.1], by rw [HSA.out.2.2], rfl⟩, Q0, Q1, Q2, Q3, Q4, Q5, hown9, hs9, hB9⟩
              case measure => simp [intOf]; omega
          · obtain rfl : k = r := by omega
            clear hlt hr
            obtain ⟨gt, ct, rfl, -, -⟩ := hrow.form h0
            have hfr : mixR (frT f k) k = .tuple #[.agg #[.int .i64 m0, .int .i64 m1, .int .i64 m2, .int .i64 m3, .int .i64 m4, .int .i64 m5], .int .i64 0] := (mixR_turn (f := f) (f' := frT f k) (fun i hi => rfl) HV.out).trans HM.out
            have HMY : Hid (∀ (g cb : Nat) (w' : World), (∀ i j, i < k → j < 6 → w'.cell? ⟨g, 0 + i * 6 + j, none⟩ = some (.int .i64 (((frT f k) i).at j))) → Calls Try.prog 9 #[.slice (some ⟨g, 0, none⟩) (k) cb] w' fun e w'' => e = .returned (.tuple #[.agg #[.int .i64 m0, .int .i64 m1, .int .i64 m2, .int .i64 m3, .int .i64 m4, .int .i64 m5], .int .i64 0]) ∧ Below w'.heap.size w' w'') := Lib.hid fun g cb w' hcl => by
              have := mixed_some (frT f k) g 0 (k) cb w' (by omega) (by omega) hcl
              rw [hfr] at this
              exact this
            clear hfr
            have hzz : wineE m0 m1 m2 m3 m4 m5 = 0 := by
              have h := mixW_right HV.out hmv
              obtain ⟨h0, h1, h2, h3, h4, h5⟩ := HMW.out
              rw [← h0, ← h1, ← h2, ← h3, ← h4, ← h5]
              exact h
            obtain ⟨⟨a0, a1, a2⟩, ⟨b0, b1, b2⟩, ⟨c0, c1, c2⟩⟩ := wineE_zero.1 hzz
            have hu : ∀ i, i < k → 0 ≤ (f i).v0 ∧ (f i).v0 ≤ uT f t i ∧ uT f t i ≤ (f i).v1 := fun i hi => by
              obtain ⟨h1, -, -⟩ := true_bds (t := t) (HV.out i hi)
              obtain ⟨⟨h2, h3, h4⟩, -, -⟩ := wineE_zero.1 (HV.out i hi)
              exact ⟨h2, h1⟩
            have hsm := sums_bd (t := t) HV.out k (Nat.le_refl _)
            have hall := true_all hu
            rw [HMW.out.1, HMW.out.2.1] at hall
            have hls := fun h => true_lo (u := uT f t) (t := sT f t) Wn.s0 hu (fun i hi => (true_bds (t := t) (HV.out i hi)).2.1.1) h
            have hhs := fun h => true_hi (u := uT f t) (t := sT f t) Wn.s1 hu (fun i hi => (true_bds (t := t) (HV.out i hi)).2.1.2) h
            have hlc := fun h => true_lo (u := uT f t) (t := cT f t) Wn.c0 hu (fun i hi => (true_bds (t := t) (HV.out i hi)).2.2.1) h
            have hhc := fun h => true_hi (u := uT f t) (t := cT f t) Wn.c1 hu (fun i hi => (true_bds (t := t) (HV.out i hi)).2.2.2) h
            rw [HMW.out.2.2.1] at hls
            rw [HMW.out.2.2.2.1] at hhs
            rw [HMW.out.2.2.2.2.1] at hlc
            rw [HMW.out.2.2.2.2.2] at hhc
            clear hu hzz
            generalize Su (uT f t) k = A at *
            generalize Su (fun i => uT f t i * sT f t i) k = AS at *
            generalize Su (fun i => uT f t i * cT f t i) k = AC at *
            obtain ⟨⟨A0, A1⟩, ⟨AS0, AS1⟩, ⟨AC0, AC1⟩⟩ := hsm
            have HIN : Hid (∀ w' : World, Calls Try.prog 14 #[.int .i64 A, .int .i64 m0, .int .i64 m1] w' fun e w'' => e = .returned (.bool true) ∧ w' = w'') := Lib.hid fun w' => by
              have := within_any A m0 m1 w'
              rw [inB_yes hall.1 hall.2] at this
              exact this
            have HBS : Hid (0 < A → ∀ w' : World, Calls Try.prog 15 #[.int .i64 AS, .int .i64 A, .agg #[.int .i64 m2, .int .i64 m3]] w' fun e w'' => e = .returned (.bool true) ∧ Below w'.heap.size w' w'') := Lib.hid fun h w' => between_yes AS A m2 m3 w' (by omega) (by omega) h (by omega) (by omega) (by omega) (by omega) (by omega) (hls h) (hhs h)
            have HBC : Hid (0 < A → ∀ w' : World, Calls Try.prog 15 #[.int .i64 AC, .int .i64 A, .agg #[.int .i64 m4, .int .i64 m5]] w' fun e w'' => e = .returned (.bool true) ∧ Below w'.heap.size w' w'') := Lib.hid fun h w' => between_yes AC A m4 m5 w' (by omega) (by omega) h (by omega) (by omega) (by omega) (by omega) (by omega) (hlc h) (hhc h)
            clear hls hhs hlc hhc hall a0 a1 a2 b0 b1 b2 c0 c1 c2 A1 AS0 AS1 AC0 AC1
            go_upto_region 22 with (go_at_call 9; (with_reducible refine Calls.mono (HMY.out _ _ _ (rowCells hrow)) ?_); rintro e w3 ⟨rfl, hb3⟩)
            have hbw := belowSq hb3 ((Below.refl _ w3).alloc (Nat.le_refl _) (.cells #[.int .i64 m0, .int .i64 m1, .int .i64 m2, .int .i64 m3, .int .i64 m4, .int .i64 m5] 27))
            obtain ⟨BY, hBY⟩ : ∃ B, w3.heap.size = B := ⟨_, rfl⟩
            have hXY : BX < BY := by have h1 := hb3.size; omega
            rw [hBY]
            refine nameWorld (fun w' => w'.cell? ⟨BX, 0, none⟩ = some (.int .i64 m0) ∧ w'.cell? ⟨BX, 1, none⟩ = some (.int .i64 m1) ∧ w'.cell? ⟨BX, 2, none⟩ = some (.int .i64 m2) ∧ w'.cell? ⟨BX, 3, none⟩ = some (.int .i64 m3) ∧ w'.cell? ⟨BX, 4, none⟩ = some (.int .i64 m4) ∧ w'.cell? ⟨BX, 5, none⟩ = some (.int .i64 m5) ∧ w'.cell? ⟨BY, 0, none⟩ = some (.int .i64 m0) ∧ w'.cell? ⟨BY, 1, none⟩ = some (.int .i64 m1) ∧ w'.cell? ⟨BY, 2, none⟩ = some (.int .i64 m2) ∧ w'.cell? ⟨BY, 3, none⟩ = some (.int .i64 m3) ∧ w'.cell? ⟨BY, 4, none⟩ = some (.int .i64 m4) ∧ w'.cell? ⟨BY, 5, none⟩ = some (.int .i64 m5) ∧ BY < w'.heap.size ∧ Below w.heap.size w w') ⟨keepC hbw q0, keepC hbw q1, keepC hbw q2, keepC hbw q3, keepC hbw q4, keepC hbw q5, (newBoth hBY (Below.refl _ _) 0 _ rfl).1, (newBoth hBY (Below.refl _ _) 1 _ rfl).1, (newBoth hBY (Below.refl _ _) 2 _ rfl).1, (newBoth hBY (Below.refl _ _) 3 _ rfl).1, (newBoth hBY (Below.refl _ _) 4 _ rfl).1, (newBoth hBY (Below.refl _ _) 5 _ rfl).1, by rw [World.size_alloc]; omega, belowSeq hbw hB⟩ (fun we he => ?_)
            clear hbw hb3 hBY hrow hB HMY hsX q0 q1 q2 q3 q4 q5
            obtain ⟨q0, q1, q2, q3, q4, q5, z0, z1, z2, z3, z4, z5, hsY, hB⟩ := he
            have hsX : BX < we.heap.size := by omega
            go_upto_region 24 with (go_at_call 14; (with_reducible refine Calls.mono (HIN.out _) ?_); rintro e w4 ⟨rfl, rfl⟩)
            clear hsY z0 z1 z2 z3 z4 z5
            by_cases hp : 0 < A
            · have hp1 : decide (0 < A) = true := by simpa using hp
              have HP := Lib.hid hp
              clear hp
              go_upto_region 26 with (go_at_call 15; first | ((with_reducible refine Calls.mono (HBS.out HP.out _) ?_); rintro e w5 ⟨rfl, hb5⟩; have q0 := keepC hb5 q0; have q1 := keepC hb5 q1; have q2 := keepC hb5 q2; have q3 := keepC hb5 q3; have q4 := keepC hb5 q4; have q5 := keepC hb5 q5; have hB := belowSeq hb5 hB; have hsX := Nat.lt_of_lt_of_le hsX hb5.size) | ((with_reducible refine Calls.mono (HBC.out HP.out _) ?_); rintro e w5 ⟨rfl, hb5⟩; have q0 := keepC hb5 q0; have q1 := keepC hb5 q1; have q2 := keepC hb5 q2; have q3 := keepC hb5 q3; have q4 := keepC hb5 q4; have q5 := keepC hb5 q5; have hB := belowSeq hb5 hB; have hsX := Nat.lt_of_lt_of_le hsX hb5.size))
              refine nameWorld (fun w' => w'.cell? ⟨BX, 0, none⟩ = some (.int .i64 m0) ∧ w'.cell? ⟨BX, 1, none⟩ = some (.int .i64 m1) ∧ w'.cell? ⟨BX, 2, none⟩ = some (.int .i64 m2) ∧ w'.cell? ⟨BX, 3, none⟩ = some (.int .i64 m3) ∧ w'.cell? ⟨BX, 4, none⟩ = some (.int .i64 m4) ∧ w'.cell? ⟨BX, 5, none⟩ = some (.int .i64 m5) ∧ BX < w'.heap.size ∧ Below w.heap.size w w') ⟨q0, q1, q2, q3, q4, q5, hsX, hB⟩ (fun wf h9 => ?_)
              clear q0 q1 q2 q3 q4 q5 hsX hB
              obtain ⟨q0, q1, q2, q3, q4, q5, hsX, hB⟩ := h9
              by_cases h8 : k = 8
              · have h81 : ((k : Int) == 8) = true := by simp; omega
                clear h8
                go_wp2_with fail
                go_ret
                exact ⟨rfl, hB⟩
              have h81 : ((k : Int) == 8) = false := by simp; omega
              have hkk : k + 1 ≤ 8 := by omega
              clear h8
              have hez : mixR (extT f k) (k + 1) = .tuple #[.agg #[.int .i64 m0, .int .i64 m1, .int .i64 m2, .int .i64 m3, .int .i64 m4, .int .i64 m5], .int .i64 0] := (mixR_ext HV.out).trans HM.out
              have HMZ : Hid (∀ (g cb : Nat) (w' : World), (∀ i j, i < k + 1 → j < 6 → w'.cell? ⟨g, 0 + i * 6 + j, none⟩ = some (.int .i64 (((extT f k) i).at j))) → Calls Try.prog 9 #[.slice (some ⟨g, 0, none⟩) (k + 1) cb] w' fun e w'' => e = .returned (.tuple #[.agg #[.int .i64 m0, .int .i64 m1, .int .i64 m2, .int .i64 m3, .int .i64 m4, .int .i64 m5], .int .i64 0]) ∧ Below w'.heap.size w' w'') := Lib.hid fun g cb w' hcl => by
                have := mixed_some (extT f k) g 0 (k + 1) cb w' (by omega) (by omega) hcl
                rw [hez] at this
                exact this
              clear hez
              go_upto_region 28 with fail
              go_wp2_with (first | (go_at_call 10; (with_reducible refine Calls.mono (HCP.out _ hB) ?_); rintro e w2 ⟨⟨g2, cb, rfl, hrow⟩, hb2⟩; have hbb := hb2) | (go_at_call 16; (with_reducible refine Calls.mono (exact_any _ _) ?_); rintro e w5 ⟨rfl, hb5⟩; have hrow := rowBelowZ hrow hb5; have hbb := belowSq hbb hb5; have hz5 := hbb.size) | (at_builtin; refine wpList_append_lies _ rfl (.tmp 165) (.tmp 169) 22 rfl wf.heap.size 27 i0 (.agg #[.int .i64 0, .int .i64 0, .int .i64 0, .int .i64 0, .int .i64 0, .int .i64 0]) 6 48 Try.underlying22 hi hz0 hz1 hz2 rfl (by decide) _ k (flatW f k) rfl (hrow.alloc _) ⟨w5.heap.size, 0, none⟩ 1 1 [.int .i64 0, .int .i64 0, .int .i64 10000, .int .i64 10000, .int .i64 5, .int .i64 5] rfl rfl ?n1 ?n2 (by decide) (by unfold maxLen; omega) (by omega) (by rw [World.size_alloc]; omega) _ rfl ?grow))
              first
              | (case n1 => exact fun j u h => World.news_of_block (heap_alloc_new _ _) j u h)
              | skip
              case n2 => exact fun u hu => by simp at hu; rcases hu with rfl | rfl | rfl | rfl | rfl | rfl <;> rfl
              case grow =>
                intro g cap w9 hown9 hgrow hat hlt9
                have hal := belowSq hbb ((Below.refl _ w5).alloc (Nat.le_refl _) (.cells #[.int .i64 0, .int .i64 0, .int .i64 10000, .int .i64 10000, .int .i64 5, .int .i64 5] 27))
                have far : ∀ i, w9.cell? ⟨BX, i, none⟩ = (w5.alloc _).cell? ⟨BX, i, none⟩ := fun i => hgrow.cell_far _ (by rw [World.size_alloc]; show BX < _; omega) (fun e => by have h1 : wf.heap.size ≤ BX := (hrow.lt _ e.symm).1; omega)
                have hB9 : Below w.heap.size w w9 := (belowSeq hal hB).grown hgrow (by rw [World.size_alloc]; have := hB.size; omega) (fun j e => by have h1 := (hrow.lt _ e).1; have := hB.size; omega)
                have Q0 := (far 0).trans (keepC hal q0)
                have Q1 := (far 1).trans (keepC hal q1)
                have Q2 := (far 2).trans (keepC hal q2)
                have Q3 := (far 3).trans (keepC hal q3)
                have Q4 := (far 4).trans (keepC hal q4)
                have Q5 := (far 5).trans (keepC hal q5)
                have hs9 : BX < w9.heap.size := World.block_lt_of_cell? w9 _ Q0
                rw [← flatW_ext] at hown9
                clear hal far hgrow hB hrow hsX hbb hb2 hb5 q0 q1 q2 q3 q4 q5
                go_upto_region 29 with (go_at_call 9; (with_reducible refine Calls.mono (HMZ.out _ _ _ (rowCells hown9)) ?_); rintro e w3 ⟨rfl, hb3⟩)
                have hbw := belowSq hb3 ((Below.refl _ w3).alloc (Nat.le_refl _) (.cells #[.int .i64 m0, .int .i64 m1, .int .i64 m2, .int .i64 m3, .int .i64 m4, .int .i64 m5] 27))
                obtain ⟨BZ, hBZ⟩ : ∃ B, w3.heap.size = B := ⟨_, rfl⟩
                have hXZ : BX < BZ := by have h1 := hb3.size; omega
                rw [hBZ]
                refine nameWorld (fun w' => w'.cell? ⟨BX, 0, none⟩ = some (.int .i64 m0) ∧ w'.cell? ⟨BX, 1, none⟩ = some (.int .i64 m1) ∧ w'.cell? ⟨BX, 2, none⟩ = some (.int .i64 m2) ∧ w'.cell? ⟨BX, 3, none⟩ = some (.int .i64 m3) ∧ w'.cell? ⟨BX, 4, none⟩ = some (.int .i64 m4) ∧ w'.cell? ⟨BX, 5, none⟩ = some (.int .i64 m5) ∧ w'.cell? ⟨BZ, 0, none⟩ = some (.int .i64 m0) ∧ w'.cell? ⟨BZ, 1, none⟩ = some (.int .i64 m1) ∧ w'.cell? ⟨BZ, 2, none⟩ = some (.int .i64 m2) ∧ w'.cell? ⟨BZ, 3, none⟩ = some (.int .i64 m3) ∧ w'.cell? ⟨BZ, 4, none⟩ = some (.int .i64 m4) ∧ w'.cell? ⟨BZ, 5, none⟩ = some (.int .i64 m5) ∧ BZ < w'.heap.size ∧ Below w.heap.size w w') ⟨keepC hbw Q0, keepC hbw Q1, keepC hbw Q2, keepC hbw Q3, keepC hbw Q4, keepC hbw Q5, (newBoth hBZ (Below.refl _ _) 0 _ rfl).1, (newBoth hBZ (Below.refl _ _) 1 _ rfl).1, (newBoth hBZ (Below.refl _ _) 2 _ rfl).1, (newBoth hBZ (Below.refl _ _) 3 _ rfl).1, (newBoth hBZ (Below.refl _ _) 4 _ rfl).1, (newBoth hBZ (Below.refl _ _) 5 _ rfl).1, by rw [World.size_alloc]; omega, belowSeq hbw hB9⟩ (fun wg hg9 => ?_)
                clear hbw hb3 hBZ hown9 hB9 hs9 Q0 Q1 Q2 Q3 Q4 Q5
                obtain ⟨q0, q1, q2, q3, q4, q5, o0, o1, o2, o3, o4, o5, hsZ, hB⟩ := hg9
                have hsX : BX < wg.heap.size := by omega
                go_wp2_with fail
                go_ret
                exact ⟨rfl, hB⟩
            · have hp1 : decide (0 < A) = false := by simpa using hp
              clear hp
              go_upto_region 26 with fail
              refine nameWorld (fun w' => w'.cell? ⟨BX, 0, none⟩ = some (.int .i64 m0) ∧ w'.cell? ⟨BX, 1, none⟩ = some (.int .i64 m1) ∧ w'.cell? ⟨BX, 2, none⟩ = some (.int .i64 m2) ∧ w'.cell? ⟨BX, 3, none⟩ = some (.int .i64 m3) ∧ w'.cell? ⟨BX, 4, none⟩ = some (.int .i64 m4) ∧ w'.cell? ⟨BX, 5, none⟩ = some (.int .i64 m5) ∧ BX < w'.heap.size ∧ Below w.heap.size w w') ⟨q0, q1, q2, q3, q4, q5, hsX, hB⟩ (fun wf h9 => ?_)
              clear q0 q1 q2 q3 q4 q5 hsX hB
              obtain ⟨q0, q1, q2, q3, q4, q5, hsX, hB⟩ := h9
              by_cases h8 : k = 8
              · have h81 : ((k : Int) == 8) = true := by simp; omega
                clear h8
                go_wp2_with fail
                go_ret
                exact ⟨rfl, hB⟩
              have h81 : ((k : Int) == 8) = false := by simp; omega
              have hkk : k + 1 ≤ 8 := by omega
              clear h8
              have hez : mixR (extT f k) (k + 1) = .tuple #[.agg #[.int .i64 m0, .int .i64 m1, .int .i64 m2, .int .i64 m3, .int .i64 m4, .int .i64 m5], .int .i64 0] := (mixR_ext HV.out).trans HM.out
              have HMZ : Hid (∀ (g cb : Nat) (w' : World), (∀ i j, i < k + 1 → j < 6 → w'.cell? ⟨g, 0 + i * 6 + j, none⟩ = some (.int .i64 (((extT f k) i).at j))) → Calls Try.prog 9 #[.slice (some ⟨g, 0, none⟩) (k + 1) cb] w' fun e w'' => e = .returned (.tuple #[.agg #[.int .i64 m0, .int .i64 m1, .int .i64 m2, .int .i64 m3, .int .i64 m4, .int .i64 m5], .int .i64 0]) ∧ Below w'.heap.size w' w'') := Lib.hid fun g cb w' hcl => by
                have := mixed_some (extT f k) g 0 (k + 1) cb w' (by omega) (by omega) hcl
                rw [hez] at this
                exact this
              clear hez
              go_upto_region 28 with fail
              go_wp2_with (first | (go_at_call 10; (with_reducible refine Calls.mono (HCP.out _ hB) ?_); rintro e w2 ⟨⟨g2, cb, rfl, hrow⟩, hb2⟩; have hbb := hb2) | (go_at_call 16; (with_reducible refine Calls.mono (exact_any _ _) ?_); rintro e w5 ⟨rfl, hb5⟩; have hrow := rowBelowZ hrow hb5; have hbb := belowSq hbb hb5; have hz5 := hbb.size) | (at_builtin; refine wpList_append_lies _ rfl (.tmp 165) (.tmp 169) 22 rfl wf.heap.size 27 i0 (.agg #[.int .i64 0, .int .i64 0, .int .i64 0, .int .i64 0, .int .i64 0, .int .i64 0]) 6 48 Try.underlying22 hi hz0 hz1 hz2 rfl (by decide) _ k (flatW f k) rfl (hrow.alloc _) ⟨w5.heap.size, 0, none⟩ 1 1 [.int .i64 0, .int .i64 0, .int .i64 10000, .int .i64 10000, .int .i64 5, .int .i64 5] rfl rfl ?n1 ?n2 (by decide) (by unfold maxLen; omega) (by omega) (by rw [World.size_alloc]; omega) _ rfl ?grow))
              first
              | (case n1 => exact fun j u h => World.news_of_block (heap_alloc_new _ _) j u h)
              | skip
              case n2 => exact fun u hu => by simp at hu; rcases hu with rfl | rfl | rfl | rfl | rfl | rfl <;> rfl
              case grow =>
                intro g cap w9 hown9 hgrow hat hlt9
                have hal := belowSq hbb ((Below.refl _ w5).alloc (Nat.le_refl _) (.cells #[.int .i64 0, .int .i64 0, .int .i64 10000, .int .i64 10000, .int .i64 5, .int .i64 5] 27))
                have far : ∀ i, w9.cell? ⟨BX, i, none⟩ = (w5.alloc _).cell? ⟨BX, i, none⟩ := fun i => hgrow.cell_far _ (by rw [World.size_alloc]; show BX < _; omega) (fun e => by have h1 : wf.heap.size ≤ BX := (hrow.lt _ e.symm).1; omega)
                have hB9 : Below w.heap.size w w9 := (belowSeq hal hB).grown hgrow (by rw [World.size_alloc]; have := hB.size; omega) (fun j e => by have h1 := (hrow.lt _ e).1; have := hB.size; omega)
                have Q0 := (far 0).trans (keepC hal q0)
                have Q1 := (far 1).trans (keepC hal q1)
                have Q2 := (far 2).trans (keepC hal q2)
                have Q3 := (far 3).trans (keepC hal q3)
                have Q4 := (far 4).trans (keepC hal q4)
                have Q5 := (far 5).trans (keepC hal q5)
                have hs9 : BX < w9.heap.size := World.block_lt_of_cell? w9 _ Q0
                rw [← flatW_ext] at hown9
                clear hal far hgrow hB hrow hsX hbb hb2 hb5 q0 q1 q2 q3 q4 q5
                go_upto_region 29 with (go_at_call 9; (with_reducible refine Calls.mono (HMZ.out _ _ _ (rowCells hown9)) ?_); rintro e w3 ⟨rfl, hb3⟩)
                have hbw := belowSq hb3 ((Below.refl _ w3).alloc (Nat.le_refl _) (.cells #[.int .i64 m0, .int .i64 m1, .int .i64 m2, .int .i64 m3, .int .i64 m4, .int .i64 m5] 27))
                obtain ⟨BZ, hBZ⟩ : ∃ B, w3.heap.size = B := ⟨_, rfl⟩
                have hXZ : BX < BZ := by have h1 := hb3.size; omega
                rw [hBZ]
                refine nameWorld (fun w' => w'.cell? ⟨BX, 0, none⟩ = some (.int .i64 m0) ∧ w'.cell? ⟨BX, 1, none⟩ = some (.int .i64 m1) ∧ w'.cell? ⟨BX, 2, none⟩ = some (.int .i64 m2) ∧ w'.cell? ⟨BX, 3, none⟩ = some (.int .i64 m3) ∧ w'.cell? ⟨BX, 4, none⟩ = some (.int .i64 m4) ∧ w'.cell? ⟨BX, 5, none⟩ = some (.int .i64 m5) ∧ w'.cell? ⟨BZ, 0, none⟩ = some (.int .i64 m0) ∧ w'.cell? ⟨BZ, 1, none⟩ = some (.int .i64 m1) ∧ w'.cell? ⟨BZ, 2, none⟩ = some (.int .i64 m2) ∧ w'.cell? ⟨BZ, 3, none⟩ = some (.int .i64 m3) ∧ w'.cell? ⟨BZ, 4, none⟩ = some (.int .i64 m4) ∧ w'.cell? ⟨BZ, 5, none⟩ = some (.int .i64 m5) ∧ BZ < w'.heap.size ∧ Below w.heap.size w w') ⟨keepC hbw Q0, keepC hbw Q1, keepC hbw Q2, keepC hbw Q3, keepC hbw Q4, keepC hbw Q5, (newBoth hBZ (Below.refl _ _) 0 _ rfl).1, (newBoth hBZ (Below.refl _ _) 1 _ rfl).1, (newBoth hBZ (Below.refl _ _) 2 _ rfl).1, (newBoth hBZ (Below.refl _ _) 3 _ rfl).1, (newBoth hBZ (Below.refl _ _) 4 _ rfl).1, (newBoth hBZ (Below.refl _ _) 5 _ rfl).1, by rw [World.size_alloc]; omega, belowSeq hbw hB9⟩ (fun wg hg9 => ?_)
                clear hbw hb3 hBZ hown9 hB9 hs9 Q0 Q1 Q2 Q3 Q4 Q5
                obtain ⟨q0, q1, q2, q3, q4, q5, o0, o1, o2, o3, o4, o5, hsZ, hB⟩ := hg9
                have hsX : BX < wg.heap.size := by omega
                go_wp2_with fail
                go_ret
                exact ⟨rfl, hB⟩
set_option linter.unusedVariables false in
set_option linter.unusedSimpArgs false in
set_option maxRecDepth 100000 in
set_option maxHeartbeats 8000000 in
theorem mixtrue_out (sa sb : Option Addr) (n cp m cq : Nat) (w : World) (hA : ∀ w : World, Calls Try.prog 8 #[] w fun e w' => e = .returned (.bool true) ∧ Below w.heap.size w w') (h : n = 0 ∨ 8 < n ∨ m < n) :
    Calls Try.prog 4 #[.slice sa n cp, .slice sb m cq] w fun e w' => e = .returned (.bool true) ∧ Below w.heap.size w w' := by
  have HA := Lib.hid hA
  clear hA
  by_cases h0 : n = 0
  · have h1 : ((n : Int) == 0) = true := by simp; omega
    clear h h0
    go_enter Try.func4, Try.ntmps4
    go_upto_region 3 with (go_at_call 8; refine (HA.out _).mono ?_; rintro e w1 ⟨rfl, hb1⟩)
    go_wp2_with fail
    go_ret
    exact ⟨rfl, hb1⟩
  have h1 : ((n : Int) == 0) = false := by simp; omega
  by_cases h8 : 8 < n
  · have h2 : decide ((8 : Int) < (n : Int)) = true := by simp; omega
    clear h h0 h8
    go_enter Try.func4, Try.ntmps4
    go_upto_region 3 with (go_at_call 8; refine (HA.out _).mono ?_; rintro e w1 ⟨rfl, hb1⟩)
    go_wp2_with fail
    go_ret
    exact ⟨rfl, hb1⟩
  have h2 : decide ((8 : Int) < (n : Int)) = false := by simp; omega
  have h3 : decide (m < n) = true := by simp; omega
  clear h h0 h8
  go_enter Try.func4, Try.ntmps4
  go_upto_region 3 with (go_at_call 8; refine (HA.out _).mono ?_; rintro e w1 ⟨rfl, hb1⟩)
  go_wp2_with fail
  go_ret
  exact ⟨rfl, hb1⟩
end Go.Proofs.Ytbijhcoloajjaaa
