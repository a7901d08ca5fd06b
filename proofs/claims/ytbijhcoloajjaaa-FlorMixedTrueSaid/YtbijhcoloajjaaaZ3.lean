/- flor's corners: all choices of an end of each volume, but the one without wine. -/
import Derived.Test.YtbijhcoloajjaaaZA
import Derived.Test.YtbijhcoloajjaaaW4
import Derived.Test.YtbijhcoloajjaaaF9
import Derived.Laws.MakeOwn
import Derived.Lib.RabinKarpLaws
namespace Go.Proofs.Ytbijhcoloajjaaa
open Go.RowKit

/-- the end that the choice c takes of the i-th volume -/
def volC (f : Nat → Wn) (c i : Nat) : Int := if c / 2 ^ i % 2 = 0 then (f i).v0 else (f i).v1
def totC (f : Nat → Wn) (c : Nat) : Nat → Int
  | 0 => 0
  | m + 1 => totC f c m + volC f c m
def encC (n : Nat) (x : Nat × Nat) : Value := .slice (some ⟨x.1, 0, none⟩) n n
def RdC (f : Nat → Wn) (n : Nat) (x : Nat × Nat) (W : World) : Prop := 0 < totC f x.2 n ∧ ∀ i, i < n → W.cell? ⟨x.1, i, none⟩ = some (.int .i64 (volC f x.2 i))
def choices (f : Nat → Wn) (n m : Nat) : List Nat := (List.range m).filter fun c => decide (0 < totC f c n)
def SC (f : Nat → Wn) (n : Nat) (xs : List (Nat × Nat)) : Prop := xs.map (·.2) = choices f n (2 ^ n)
theorem choices_succ (f : Nat → Wn) (n m : Nat) : choices f n (m + 1) = choices f n m ++ (if 0 < totC f m n then [m] else []) := by
  unfold choices
  rw [List.range_succ, List.filter_append]
  congr 1
  by_cases h : 0 < totC f m n <;> simp [h]
theorem KeptBut.cell {B : Nat → Prop} {W W' : World} (h : KeptBut B W W') {p : Addr} (hp : p.block < W.heap.size) (hb : ¬ B p.block) : W'.cell? p = W.cell? p := World.cell?_of_block (h.2.2.2.2 _ hp hb)
theorem KeptBut.frozen {B : Nat → Prop} {W W' : World} (h : KeptBut B W W') {p : Addr} (hp : p.block < W.heap.size) (hb : ¬ B p.block) : W'.frozen? p = W.frozen? p := World.frozen?_of_block (h.2.2.2.2 _ hp hb)
theorem KeptBut.of_below {B : Nat → Prop} {W W' : World} (h : Below W.heap.size W W') : KeptBut B W W' := ⟨h.size, h.os.symm, h.tape.symm, h.output.symm, fun k hk _ => h.block k hk⟩
theorem volC_bd {f : Nat → Wn} {n : Nat} (hv : ∀ i, i < n → (f i).err = 0) (c : Nat) {i : Nat} (hi : i < n) : 0 ≤ volC f c i ∧ volC f c i ≤ 100000 := by
  obtain ⟨⟨a, b, d⟩, -, -⟩ := wineE_zero.1 (hv i hi)
  unfold volC
  split <;> omega
theorem totC_bd {f : Nat → Wn} {n : Nat} (hv : ∀ i, i < n → (f i).err = 0) (c : Nat) : ∀ m, m ≤ n → 0 ≤ totC f c m ∧ totC f c m ≤ 100000 * (m : Int)
  | 0, _ => by simp [totC]
  | m + 1, h => by
    have h1 := totC_bd hv c m (by omega)
    have h2 := volC_bd hv c (i := m) (by omega)
    unfold totC
    omega
theorem bit_of (c j : Nat) (h : c < 9223372036854775808) : bits BinOp.and IntKind.i64 ((c : Int) / 2 ^ j) 1 = ((c / 2 ^ j % 2 : Nat) : Int) := by
  have h2 : c / 2 ^ j ≤ c := Nat.div_le_self _ _
  have := and_one (c / 2 ^ j) (by omega)
  rw [← this]
  congr 1
theorem intInfo : (Try.prog.info? 3).map (fun i => (i.zero, i.size, i.bytes)) = some (some (.int .i64 0), 1, 8) := by kernel_rfl
set_option linter.unusedVariables false in
set_option linter.unusedSimpArgs false in
set_option maxRecDepth 100000 in
set_option maxHeartbeats 8000000 in
theorem corners_seq (f : Nat → Wn) (rb ro n cp bm be b N : Nat) (w : World) (hn0 : 0 < n) (hn : n ≤ 8) (hv : ∀ i, i < n → (f i).err = 0)
    (hbm : w.cell? ⟨bm, 0, none⟩ = some (.slice (some ⟨rb, ro, none⟩) n cp)) (he0 : w.cell? ⟨be, 0, none⟩ = some (.func (.func 47) #[] #[])) (he1 : w.cell? ⟨be, 1, none⟩ = some (.func (.func 48) #[] #[]))
    (hc : ∀ i j, i < n → j < 6 → w.cell? ⟨rb, ro + i * 6 + j, none⟩ = some (.int .i64 ((f i).at j))) (hb1 : bm ≠ b) (hb2 : be ≠ b) (hb3 : rb ≠ b) :
    SeqZ Fence.wide N Try.prog 68 #[.pointer (some ⟨bm, 0, none⟩), .pointer (some ⟨be, 0, none⟩)] (encC n) b (RdC f n) (SC f n) w := by
  intro l J W hW hl1 hl2 hJ hY h0
  have HY := Lib.hid hY
  have HJ := Lib.hid hJ
  have HC := Lib.hid hc
  have HV := Lib.hid hv
  clear hY hJ hc hv
  refine callsIn_wide.2 ?_
  show Calls Try.prog 68 #[.func (.yield l) #[] #[], .pointer (some ⟨bm, 0, none⟩), .pointer (some ⟨be, 0, none⟩)] W _
  have sbm := World.block_lt_of_cell? w _ hbm
  have sbe := World.block_lt_of_cell? w _ he0
  have srb := World.block_lt_of_cell? w _ (HC.out 0 0 hn0 (by decide))
  dsimp only at sbm sbe srb
  have sW : w.heap.size ≤ W.heap.size := hW.size
  have hBm : W.cell? ⟨bm, 0, none⟩ = some (.slice (some ⟨rb, ro, none⟩) n cp) := keepC hW hbm
  obtain ⟨T, hT⟩ : ∃ T, 2 ^ n = T := ⟨_, rfl⟩
  have hT2 : wrap64 ((2 : Int) ^ n) = (T : Int) := by
    subst hT
    match n, hn with
    | 0, _ => decide +kernel
    | 1, _ => decide +kernel
    | 2, _ => decide +kernel
    | 3, _ => decide +kernel
    | 4, _ => decide +kernel
    | 5, _ => decide +kernel
    | 6, _ => decide +kernel
    | 7, _ => decide +kernel
    | 8, _ => decide +kernel
  have hT3 : T ≤ 256 := by
    subst hT
    exact Nat.pow_le_pow_right (n := 2) (by decide) hn
  have HT := Lib.hid hT
  clear hT
  obtain ⟨i0, hi, hz0, hz1, hz2⟩ := info_parts intInfo
  obtain ⟨A, hAg, hmk⟩ : ∃ A : Array Value, (∀ j, j < n → A[j]? = some (.int .i64 0)) ∧ ∀ w : World, (Instr.makeSlice 102 (.int .i64 (n : Int)) (.int .i64 (n : Int))).run Try.prog w = .ok (.slice (some ⟨w.heap.size, 0, none⟩) n n) (w.alloc (.cells A 3)) := by
    refine ⟨madeCells #[.int .i64 0] n, fun j hj => ?_, fun w => ?_⟩
    · rw [← Array.getElem?_toList, toList_madeCells_one]; simp [hj]
    · have := run_make (P := Try.prog) w 102 3 i0 (.int .i64 0) Try.underlying102 hi hz0 .i64 .i64 (n : Int) (n : Int) (by omega) (Int.le_refl _) (by rw [hz2]; omega) (by omega)
      rw [hz1] at this
      simp only [Int.toNat_natCast, Nat.mul_one] at this
      exact this
  have HAg := Lib.hid hAg
  clear hAg
  go_enter Try.func68, Try.ntmps68
  go_wp2_with fail
  simp only [hT2]
  clear hT2
  go_loopw [12] (fun i wr => ∃ (c : Nat) (pre : List (Nat × Nat)), (c ≤ T ∧ i = .int .i64 c) ∧ Hid (pre.map (·.2) = choices f n c) ∧ Hid (J pre wr) ∧ Hid (KeptBut (fun k => k = b ∨ k = l) W wr))
    (fun i _ => T - (intOf i).toNat)
  case atStart => exact ⟨0, [], ⟨Nat.zero_le _, rfl⟩, Lib.hid rfl, Lib.hid h0, Lib.hid (KeptBut.refl _ _)⟩
  case round =>
    clear h0
    obtain ⟨c, pre, ⟨hcT, rfl⟩, HP, HJp, HK⟩ := hrel
    rename World => wo
    have hBm1 : wo.cell? ⟨bm, 0, none⟩ = some (.slice (some ⟨rb, ro, none⟩) n cp) := (HK.out.cell (p := ⟨bm, 0, none⟩) (by show bm < _; omega) (by show ¬ (bm = b ∨ bm = l); omega)).trans hBm
    have hn2 : (0 : Int) ≤ (n : Int) := by omega
    have hn3 : (n : Int) ≤ 8 := by omega
    by_cases hlt : c < T
    · go_upto_region 4 with fail
      obtain ⟨g, hg⟩ : ∃ g, wo.heap.size = g := ⟨_, rfl⟩
      have hal := (Below.refl wo.heap.size wo).alloc (Nat.le_refl _) (.cells A 3)
      have hce : ∀ q, q < n → (wo.alloc (.cells A 3)).cell? ⟨g, q, none⟩ = some (.int .i64 0) := fun q hq => hg ▸ newCell q _ (HAg.out q hq)
      have hfe : ∀ q, q < n → (wo.alloc (.cells A 3)).frozen? ⟨g, q, none⟩ = false := fun q hq => by rw [← hg]; exact World.frozen?_alloc_at (w := wo) A 3 _ q rfl
      rw [hg]
      have HZ : Hid ((∀ q, q < n → (wo.alloc (.cells A 3)).cell? ⟨g, q, none⟩ = some (.int .i64 (if q < 0 then volC f c q else 0))) ∧ (∀ q, q < n → (wo.alloc (.cells A 3)).frozen? ⟨g, q, none⟩ = false) ∧ Below wo.heap.size wo (wo.alloc (.cells A 3))) := Lib.hid ⟨fun q hq => by rw [if_neg (by omega)]; exact hce q hq, hfe, hal⟩
      have hBm2 : (wo.alloc (.cells A 3)).cell? ⟨bm, 0, none⟩ = some (.slice (some ⟨rb, ro, none⟩) n cp) := keepC hal hBm1
      clear hce hfe hal
      go_wp2_with fail
      go_loopw [20, 6] (fun i t wy => ∃ j : Nat, (j ≤ n ∧ i = .int .i64 j ∧ t = .int .i64 (totC f c j)) ∧ Hid ((∀ q, q < n → wy.cell? ⟨g, q, none⟩ = some (.int .i64 (if q < j then volC f c q else 0))) ∧ (∀ q, q < n → wy.frozen? ⟨g, q, none⟩ = false) ∧ Below wo.heap.size wo wy))
        (fun i _ _ => n - (intOf i).toNat)
      case atStart => exact ⟨0, ⟨Nat.zero_le _, rfl, rfl⟩, HZ⟩
      case round =>
        clear HZ
        obtain ⟨j, ⟨hj, rfl, rfl⟩, HZ⟩ := hrel
        by_cases hlj : j < n
        · obtain ⟨⟨x0, x1, x2, x3, x4, x5⟩, hx⟩ : ∃ x, f j = x := ⟨_, rfl⟩
          have hkk := HK.out.trans (KeptBut.of_below HZ.out.2.2)
          have hbe0 : wr.cell? ⟨be, 0, none⟩ = some (.func (.func 47) #[] #[]) := (hkk.cell (p := ⟨be, 0, none⟩) (by show be < _; omega) (by show ¬ (be = b ∨ be = l); omega)).trans (keepC hW he0)
          have hbe1 : wr.cell? ⟨be, 1, none⟩ = some (.func (.func 48) #[] #[]) := (hkk.cell (p := ⟨be, 1, none⟩) (by show be < _; omega) (by show ¬ (be = b ∨ be = l); omega)).trans (keepC hW he1)
          have hm : ∀ q, q < 6 → wr.cell? ⟨rb, ro + j * 6 + q, none⟩ = some (.int .i64 ((f j).at q)) := fun q hq => (hkk.cell (p := ⟨rb, ro + j * 6 + q, none⟩) (by show rb < _; omega) (by show ¬ (rb = b ∨ rb = l); omega)).trans (keepC hW (HC.out j q hlj hq))
          have d0 := hm 0 (by decide)
          rw [hx] at d0
          rw [Nat.add_zero] at d0
          dsimp only [Wn.at] at d0
          have d1 := hm 1 (by decide)
          rw [hx] at d1
          dsimp only [Wn.at] at d1
          have d2 := hm 2 (by decide)
          rw [hx] at d2
          dsimp only [Wn.at] at d2
          have d3 := hm 3 (by decide)
          rw [hx] at d3
          dsimp only [Wn.at] at d3
          have d4 := hm 4 (by decide)
          rw [hx] at d4
          dsimp only [Wn.at] at d4
          have d5 := hm 5 (by decide)
          rw [hx] at d5
          dsimp only [Wn.at] at d5
          clear hm hkk
          have hk0 : (0 : Int) ≤ (j : Int) := by omega
          have hk1 : (j : Int) < (n : Int) := by omega
          have hk2 : (0 : Int) ≤ (c : Int) := by omega
          have hz : wr.cell? ⟨g, j, none⟩ = some (.int .i64 0) := by have := HZ.out.1 j hlj; rwa [if_neg (Nat.lt_irrefl j)] at this
          have hzf := HZ.out.2.1 j hlj
          obtain ⟨tt, htt⟩ : ∃ t, totC f c j = t := ⟨_, rfl⟩
          have htb : 0 ≤ tt ∧ tt ≤ 800000 := by have := totC_bd HV.out c j (by omega); rw [htt] at this; omega
          obtain ⟨vv, hvv⟩ : ∃ v, volC f c j = v := ⟨_, rfl⟩
          have hvb : 0 ≤ vv ∧ vv ≤ 100000 := hvv ▸ volC_bd HV.out c hlj
          rw [htt]
          have HTT := Lib.hid htt
          have HVV := Lib.hid hvv
          have HX := Lib.hid hx
          clear htt hvv hx
          have hgs : g < wr.heap.size := World.block_lt_of_cell? wr _ hz
          have hgo : wo.heap.size ≤ g := by omega
          have hwr : wo.heap.size ≤ wr.heap.size := HZ.out.2.2.size
          clear hg
          have hbit := bit_of c j (by omega)
          by_cases hq : c / 2 ^ j % 2 = 0
          · rw [hq] at hbit
            have hv : vv = x0 := by rw [← HVV.out]; unfold volC; rw [if_pos hq, HX.out]
            clear hq
            go_wp2_with fail
            obtain ⟨BW, hBW⟩ : ∃ B, wr.heap.size = B := ⟨_, rfl⟩
            rw [hBW]
            refine nameWorld (fun w' => w'.cell? ⟨BW, 0, none⟩ = some (.int .i64 x0) ∧ w'.cell? ⟨BW, 1, none⟩ = some (.int .i64 x1) ∧ w'.cell? ⟨BW, 2, none⟩ = some (.int .i64 x2) ∧ w'.cell? ⟨BW, 3, none⟩ = some (.int .i64 x3) ∧ w'.cell? ⟨BW, 4, none⟩ = some (.int .i64 x4) ∧ w'.cell? ⟨BW, 5, none⟩ = some (.int .i64 x5) ∧ w'.cell? ⟨be, 0, none⟩ = some (.func (.func 47) #[] #[]) ∧ w'.cell? ⟨be, 1, none⟩ = some (.func (.func 48) #[] #[]) ∧ w'.cell? ⟨g, j, none⟩ = some (.int .i64 0) ∧ w'.frozen? ⟨g, j, none⟩ = false ∧ Below wr.heap.size wr w') ?_ (fun wc hc => ?_)
            · rw [← hBW]; have hb9 := (Below.refl _ wr).alloc (Nat.le_refl _) (.cells #[.int .i64 x0, .int .i64 x1, .int .i64 x2, .int .i64 x3, .int .i64 x4, .int .i64 x5] 76)
              exact ⟨newCell 0 _ rfl, newCell 1 _ rfl, newCell 2 _ rfl, newCell 3 _ rfl, newCell 4 _ rfl, newCell 5 _ rfl, keepC hb9 hbe0, keepC hb9 hbe1, keepC hb9 hz, keepF hb9 hz hzf, hb9⟩
            clear hbe0 hbe1 hz hzf d0 d1 d2 d3 d4 d5
            obtain ⟨y0, y1, y2, y3, y4, y5, hbe0, hbe1, hz, hzf, hBc⟩ := hc
            refine regionX 11 0 [] [] (by kernel_rfl) (by kernel_rfl) (by kernel_rfl) (by kernel_rfl) (by decide) (fun _ _ d _ _ h => by cases d <;> exact h) ?_
            intro R hR
            simp only [List.take_succ_cons, List.take_zero]
            iterate 11 (first | (refine headP_val ?_ (by rfl) (by rfl) (fun w' hw' => ?_) ?_; rotate_left; (focus (have y0 := keepC hw' y0; have y1 := keepC hw' y1; have y2 := keepC hw' y2; have y3 := keepC hw' y3; have y4 := keepC hw' y4; have y5 := keepC hw' y5; have y6 := keepC hw' hbe0; have y7 := keepC hw' hbe1; first | (refine onlyMakes_val ?_; first | (go_simp; done) | (go_simp; with_reducible rfl)) | (apply onlyMakes_call; (first | (go_simp; done) | (go_simp; exact ⟨rfl, rfl⟩) | (go_simp; with_reducible rfl)); first | (with_reducible exact leastVolume_any _ _ _ _ _ _ _)))); (try dsimp only); (try simp only [Act.put, List.setIfInBounds_toArray, List.set_cons_zero, List.set_cons_succ])) | (refine headP_pure ?_ (by rfl) (by rfl) (fun w' => ?_) ?_; rotate_left; (focus ((first | (go_simp; done) | (go_simp; with_reducible rfl)))); (try dsimp only); (try simp only [Act.put, List.setIfInBounds_toArray, List.set_cons_zero, List.set_cons_succ])) | (refine headP_skip (by rfl) ?_; (try dsimp only); (try simp only [Act.put, List.setIfInBounds_toArray, List.set_cons_zero, List.set_cons_succ])))
            refine headP_nil (hR.out _ ?_)
            refine AnyZ.last 11 (by kernel_rfl) (by decide) (fun w2 hw2 => ?_)
            refine wpAny_one 11 (by kernel_rfl) rfl rfl ?_
            have gz := keepC hw2 hz
            have gf := keepF hw2 hz hzf
            clear hR y0 y1 y2 y3 y4 y5 hbe0 hbe1 hz hzf
            (try simp only [List.getElem_toArray, List.getElem_cons_succ, List.getElem_cons_zero])
            (try simp only [Act.put, List.setIfInBounds_toArray, List.set_cons_succ, List.set_cons_zero])
            unfold Oper.wp
            go_simp
            refine wpAny_done (by kernel_rfl) ?_
            have hB2 : Below wr.heap.size wr w2 := belowSeq hw2 hBc
            go_upto_region 8 with fail
            refine nameWorld (fun w' => w'.cell? ⟨g, j, none⟩ = some (.int .i64 vv) ∧ Hid ((∀ q, q < n → w'.cell? ⟨g, q, none⟩ = some (.int .i64 (if q < j + 1 then volC f c q else 0))) ∧ (∀ q, q < n → w'.frozen? ⟨g, q, none⟩ = false) ∧ Below wo.heap.size wo w')) ?_ (fun wd hd => ?_)
            · have hcc : ∀ q, q < n → w2.cell? ⟨g, q, none⟩ = some (.int .i64 (if q < j then volC f c q else 0)) := fun q hq => keepC hB2 (HZ.out.1 q hq)
              refine ⟨by rw [hv]; exact World.cell?_setCell_same _ _ _ gz, Lib.hid ⟨fun q hq => ?_, fun q hq => ?_, ?_⟩⟩
              · by_cases e : q = j
                · subst e
                  rw [if_pos (by omega), HVV.out, hv]
                  exact World.cell?_setCell_same _ _ _ gz
                · rw [setOff (by omega), hcc q hq]
                  by_cases e2 : q < j
                  · rw [if_pos e2, if_pos (by omega)]
                  · rw [if_neg e2, if_neg (by omega)]
              · rw [World.frozen?_setCell]; exact keepF hB2 (HZ.out.1 q hq) (HZ.out.2.1 q hq)
              · exact (belowSeq hB2 HZ.out.2.2).setCell (by show wo.heap.size ≤ g; omega) _
            clear HZ gz gf hB2 hBc hw2
            obtain ⟨hz, HZ⟩ := hd
            go_wp2_with fail
            go_roundw
            case rel => exact ⟨j + 1, ⟨by omega, by first | rfl | go_num, by rw [totC, HTT.out, HVV.out, hv]⟩, HZ⟩
            case measure => simp [intOf]; omega
          · have hq1 : c / 2 ^ j % 2 = 1 := by omega
            rw [hq1] at hbit
            have hv : vv = x1 := by rw [← HVV.out]; unfold volC; rw [if_neg hq, HX.out]
            clear hq hq1
            go_wp2_with fail
            obtain ⟨BW, hBW⟩ : ∃ B, wr.heap.size = B := ⟨_, rfl⟩
            rw [hBW]
            refine nameWorld (fun w' => w'.cell? ⟨BW, 0, none⟩ = some (.int .i64 x0) ∧ w'.cell? ⟨BW, 1, none⟩ = some (.int .i64 x1) ∧ w'.cell? ⟨BW, 2, none⟩ = some (.int .i64 x2) ∧ w'.cell? ⟨BW, 3, none⟩ = some (.int .i64 x3) ∧ w'.cell? ⟨BW, 4, none⟩ = some (.int .i64 x4) ∧ w'.cell? ⟨BW, 5, none⟩ = some (.int .i64 x5) ∧ w'.cell? ⟨be, 0, none⟩ = some (.func (.func 47) #[] #[]) ∧ w'.cell? ⟨be, 1, none⟩ = some (.func (.func 48) #[] #[]) ∧ w'.cell? ⟨g, j, none⟩ = some (.int .i64 0) ∧ w'.frozen? ⟨g, j, none⟩ = false ∧ Below wr.heap.size wr w') ?_ (fun wc hc => ?_)
            · rw [← hBW]; have hb9 := (Below.refl _ wr).alloc (Nat.le_refl _) (.cells #[.int .i64 x0, .int .i64 x1, .int .i64 x2, .int .i64 x3, .int .i64 x4, .int .i64 x5] 76)
              exact ⟨newCell 0 _ rfl, newCell 1 _ rfl, newCell 2 _ rfl, newCell 3 _ rfl, newCell 4 _ rfl, newCell 5 _ rfl, keepC hb9 hbe0, keepC hb9 hbe1, keepC hb9 hz, keepF hb9 hz hzf, hb9⟩
            clear hbe0 hbe1 hz hzf d0 d1 d2 d3 d4 d5
            obtain ⟨y0, y1, y2, y3, y4, y5, hbe0, hbe1, hz, hzf, hBc⟩ := hc
            refine regionX 11 0 [] [] (by kernel_rfl) (by kernel_rfl) (by kernel_rfl) (by kernel_rfl) (by decide) (fun _ _ d _ _ h => by cases d <;> exact h) ?_
            intro R hR
            simp only [List.take_succ_cons, List.take_zero]
            iterate 11 (first | (refine headP_val ?_ (by rfl) (by rfl) (fun w' hw' => ?_) ?_; rotate_left; (focus (have y0 := keepC hw' y0; have y1 := keepC hw' y1; have y2 := keepC hw' y2; have y3 := keepC hw' y3; have y4 := keepC hw' y4; have y5 := keepC hw' y5; have y6 := keepC hw' hbe0; have y7 := keepC hw' hbe1; first | (refine onlyMakes_val ?_; first | (go_simp; done) | (go_simp; with_reducible rfl)) | (apply onlyMakes_call; (first | (go_simp; done) | (go_simp; exact ⟨rfl, rfl⟩) | (go_simp; with_reducible rfl)); first | (with_reducible exact mostVolume_any _ _ _ _ _ _ _)))); (try dsimp only); (try simp only [Act.put, List.setIfInBounds_toArray, List.set_cons_zero, List.set_cons_succ])) | (refine headP_pure ?_ (by rfl) (by rfl) (fun w' => ?_) ?_; rotate_left; (focus ((first | (go_simp; done) | (go_simp; with_reducible rfl)))); (try dsimp only); (try simp only [Act.put, List.setIfInBounds_toArray, List.set_cons_zero, List.set_cons_succ])) | (refine headP_skip (by rfl) ?_; (try dsimp only); (try simp only [Act.put, List.setIfInBounds_toArray, List.set_cons_zero, List.set_cons_succ])))
            refine headP_nil (hR.out _ ?_)
            refine AnyZ.last 11 (by kernel_rfl) (by decide) (fun w2 hw2 => ?_)
            refine wpAny_one 11 (by kernel_rfl) rfl rfl ?_
            have gz := keepC hw2 hz
            have gf := keepF hw2 hz hzf
            clear hR y0 y1 y2 y3 y4 y5 hbe0 hbe1 hz hzf
            (try simp only [List.getElem_toArray, List.getElem_cons_succ, List.getElem_cons_zero])
            (try simp only [Act.put, List.setIfInBounds_toArray, List.set_cons_succ, List.set_cons_zero])
            unfold Oper.wp
            go_simp
            refine wpAny_done (by kernel_rfl) ?_
            have hB2 : Below wr.heap.size wr w2 := belowSeq hw2 hBc
            go_upto_region 8 with fail
            refine nameWorld (fun w' => w'.cell? ⟨g, j, none⟩ = some (.int .i64 vv) ∧ Hid ((∀ q, q < n → w'.cell? ⟨g, q, none⟩ = some (.int .i64 (if q < j + 1 then volC f c q else 0))) ∧ (∀ q, q < n → w'.frozen? ⟨g, q, none⟩ = false) ∧ Below wo.heap.size wo w')) ?_ (fun wd hd => ?_)
            · have hcc : ∀ q, q < n → w2.cell? ⟨g, q, none⟩ = some (.int .i64 (if q < j then volC f c q else 0)) := fun q hq => keepC hB2 (HZ.out.1 q hq)
              refine ⟨by rw [hv]; exact World.cell?_setCell_same _ _ _ gz, Lib.hid ⟨fun q hq => ?_, fun q hq => ?_, ?_⟩⟩
              · by_cases e : q = j
                · subst e
                  rw [if_pos (by omega), HVV.out, hv]
                  exact World.cell?_setCell_same _ _ _ gz
                · rw [setOff (by omega), hcc q hq]
                  by_cases e2 : q < j
                  · rw [if_pos e2, if_pos (by omega)]
                  · rw [if_neg e2, if_neg (by omega)]
              · rw [World.frozen?_setCell]; exact keepF hB2 (HZ.out.1 q hq) (HZ.out.2.1 q hq)
              · exact (belowSeq hB2 HZ.out.2.2).setCell (by show wo.heap.size ≤ g; omega) _
            clear HZ gz gf hB2 hBc hw2
            obtain ⟨hz, HZ⟩ := hd
            go_wp2_with fail
            go_roundw
            case rel => exact ⟨j + 1, ⟨by omega, by first | rfl | go_num, by rw [totC, HTT.out, HVV.out, hv]⟩, HZ⟩
            case measure => simp [intOf]; omega
        · have e : j = n := by omega
          subst e
          have hgb := HZ.out.2.2
          have HJ2 : J pre wr := HJ.out _ _ _ HJp.out (hgb.mono HK.out.1)
          have hsz : W.heap.size ≤ wr.heap.size := Nat.le_trans HK.out.1 hgb.size
          obtain ⟨tt, htt⟩ : ∃ t, totC f c j = t := ⟨_, rfl⟩
          have hK2 : KeptBut (fun k => k = b ∨ k = l) W wr := HK.out.trans (KeptBut.of_below hgb)
          rw [htt]
          by_cases hpos : 0 < tt
          · have HS : Hid (choices f j (c + 1) = choices f j c ++ [c]) := Lib.hid (by rw [choices_succ, if_pos (htt ▸ hpos)])
            have HK2 := Lib.hid hK2
            have hRd : RdC f j (g, c) wr := ⟨htt ▸ hpos, fun i hi => by have := HZ.out.1 i hi; rwa [if_pos hi] at this⟩
            have hy0 := HY.out pre (g, c) wr HJ2 hRd hsz
            clear HZ htt hRd hgb HJ2 hK2
            go_upto_region 10 with fail
            obtain ⟨fn, tmps, assign, body, hy, hR⟩ := hy0
            dsimp only [encC] at hy
            refine (wpIn_wide (n := N)).1 ?_
            gi_wp2
            refine ⟨by simp [Fence.wide], hR.mono ?_⟩
            rintro e W3 ⟨rfl, hJ3, hk3⟩
            clear hy hR
            dsimp only
            gi_wp2
            all_goals go_wp2_with fail
            go_roundw
            case rel => exact ⟨c + 1, pre ++ [(g, c)], ⟨by omega, by first | rfl | go_num⟩, Lib.hid (by rw [List.map_append, HP.out, HS.out]; rfl), Lib.hid hJ3, Lib.hid (HK2.out.trans hk3)⟩
            case measure => simp [intOf]; omega
          · have HS : Hid (choices f j (c + 1) = choices f j c) := Lib.hid (by rw [choices_succ, if_neg (htt ▸ hpos), List.append_nil])
            have HK2 := Lib.hid hK2
            clear HZ htt hgb hK2
            go_wp2_with fail
            go_roundw
            case rel => exact ⟨c + 1, pre, ⟨by omega, by first | rfl | go_num⟩, Lib.hid (by rw [HP.out, HS.out]), Lib.hid HJ2, HK2⟩
            case measure => simp [intOf]; omega
    · have e : c = T := by omega
      subst e
      go_wp2_with fail
      go_end0
      exact ⟨⟨_, rfl⟩, pre, by have := HP.out; rw [← HT.out] at this; exact this, HJp.out, HK.out.1⟩
end Go.Proofs.Ytbijhcoloajjaaa
