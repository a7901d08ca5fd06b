/- GaugeTables: put together. -/
import Derived.Test.YtpidgcmdimjkoaaVO
import Derived.Test.YtpidgcmdimjkoaaVN1
import Derived.Test.YtpidgcmdimjkoaaVN2
import Derived.Test.YtpidgcmdimjkoaaVN3
import Derived.Test.YtpidgcmdimjkoaaVN4
import Derived.Test.YtpidgcmdimjkoaaVN5
import Derived.Test.YtpidgcmdimjkoaaVN6
set_option linter.unusedVariables false
set_option linter.unusedSimpArgs false
namespace Go.Proofs.Ytpidgcmdimjkoaa
open Go.RowKit
namespace Sy
open Go.RowKit

theorem law_winT {s : ByteArray} {bung dip day dp wr : Int} {xs : List Int} {N gs os cap : Nat} {w : World} {ob : Obj} (hl : xs.length = N * 3) (hw : WinAt gs os xs w) (hob : w.heap[gs]? = some ob) {l : List Fact} {ok} {sp : CallF} (hsp : CallOk (pgT s bung dip (zsOf xs day dp wr) (fun o => o = ob) l ok) sp)
    (hrun : fstW (evDS (pgT s bung dip (zsOf xs day dp wr) (fun o => o = ob) l ok) sp 2000 60 (.fn 6) (argsT N) (hpW N) 1) = some (.bool true, some (.win (rowV N)))) :
    Calls Try.prog 6 #[.agg #[.string s, .int .i64 bung, .slice (some ⟨gs, os, none⟩) N cap], .int .i64 dip, .agg #[.int .i64 day, .int .i64 dp, .int .i64 wr]] w fun e w' => e = .returned (.bool true) ∧ Below w.heap.size w w' := by
  refine Calls.mono (run_win (P := pgT s bung dip (zsOf xs day dp wr) (fun o => o = ob) l ok) rfl (by kernel_rfl) hsp (by rw [rowV_len, hl]) (rowV_denX hl) hrun (args' := #[.agg #[.string s, .int .i64 bung, .slice (some ⟨gs, os, none⟩) N cap], .int .i64 dip, .agg #[.int .i64 day, .int .i64 dp, .int .i64 wr]])
    (LRel.cons (LRel.agg (LRel.cons (.hol (P := pgT s bung dip (zsOf xs day dp wr) (fun o => o = ob) l ok) (n := 0) rfl rfl (fun _ => rfl)) (LRel.cons (Dv.vrel (P := pgT s bung dip (zsOf xs day dp wr) (fun o => o = ob) l ok) dBung) (LRel.cons (.osl rfl (.lit (N : Int))) (LRel.nil _)))))
      (LRel.cons (Dv.vrel (P := pgT s bung dip (zsOf xs day dp wr) (fun o => o = ob) l ok) dDip) (LRel.cons (LRel.agg (LRel.cons (Dv.vrel (P := pgT s bung dip (zsOf xs day dp wr) (fun o => o = ob) l ok) (dX0 hl)) (LRel.cons (Dv.vrel (P := pgT s bung dip (zsOf xs day dp wr) (fun o => o = ob) l ok) (dX1 hl)) (LRel.cons (Dv.vrel (P := pgT s bung dip (zsOf xs day dp wr) (fun o => o = ob) l ok) (dX2 hl)) (LRel.nil _))))) (LRel.nil _)))) hw hob rfl) ?_
  rintro e' w' ⟨M', v', rfl, hvr, hwb⟩
  cases hvr
  exact ⟨rfl, hwb⟩
theorem rows_cases {n : Nat} (h : n = 100 ∨ n = 101 ∨ (1 ≤ n ∧ n ≤ 13)) : n = 100 ∨ n = 101 ∨ n = 1 ∨ n = 2 ∨ n = 3 ∨ n = 4 ∨ n = 5 ∨ n = 6 ∨ n = 7 ∨ n = 8 ∨ n = 9 ∨ n = 10 ∨ n = 11 ∨ n = 12 ∨ n = 13 := by omega
theorem st_rows {bung dip : Int} {n : Nat} (h : StIs bung dip n) (hn : n ≤ 13) : RowsN bung dip n ∨ n = 0 := by
  rcases h with ⟨_, h⟩ | ⟨rfl, _⟩ | ⟨rfl, _⟩
  · exact .inl h
  · omega
  · omega
theorem tab_win (s : ByteArray) (bung dip day dp wr : Int) (xs : List Int) (N gs os cap : Nat) (w : World) (hN : N = 1 ∨ N = 2 ∨ N = 3 ∨ N = 4 ∨ N = 13 ∨ N = 14) (hl : xs.length = N * 3) (hw : WinAt gs os xs w) (hs : smallB s N bung = true) :
    Calls Try.prog 6 #[.agg #[.string s, .int .i64 bung, .slice (some ⟨gs, os, none⟩) N cap], .int .i64 dip, .agg #[.int .i64 day, .int .i64 dp, .int .i64 wr]] w fun e w' => e = .returned (.bool true) ∧ Below w.heap.size w w' := by
  obtain ⟨ob, hob⟩ : ∃ ob, w.heap[gs]? = some ob := by obtain ⟨c, e, f, h, _⟩ := hw; exact ⟨_, h⟩
  by_cases hz : (caskS s bung xs).2 = 0
  · have hc := caskS_ok hl hz
    have h2 := hc.two
    have h12 := hc.twelve
    have hN : N = 2 ∨ N = 3 ∨ N = 4 := by omega
    have hb8 := hc.hi
    have hb60 : bung ≤ 60 := by
      have h := hs
      simp only [smallB, Bool.and_eq_true, Bool.or_eq_true, decide_eq_true_eq] at h
      omega
    obtain ⟨n, hst, hn⟩ := rows_are (dip := dip) hc.lo hb60
    by_cases hf : FdOk bung day dp wr
    · cases hcc : decide (100000 < topVol bung dp wr (zsOf xs day dp wr) N)
      · rcases hN with rfl | rfl | rfl
        · rcases rows_cases hn with rfl | rfl | rfl | rfl | rfl | rfl | rfl | rfl | rfl | rfl | rfl | rfl | rfl | rfl | rfl
          · exact law_winT hl hw hob (okGood (n := 0) hs hl hc (.inr rfl) hf) (tRun2_100_0 s bung dip _ _ (okAllT (n := 100) (j := 0) hl hz hc hst (okFd hl hc hf hcc)))
          · exact law_winT hl hw hob (okGood (n := 0) hs hl hc (.inr rfl) hf) (tRun2_101_0 s bung dip _ _ (okAllT (n := 101) (j := 0) hl hz hc hst (okFd hl hc hf hcc)))
          · exact law_winT hl hw hob (okGood (n := 1) hs hl hc (st_rows hst (by decide)) hf) (tRun2_1_0 s bung dip _ _ (okAllT (n := 1) (j := 0) hl hz hc hst (okFd hl hc hf hcc)))
          · exact law_winT hl hw hob (okGood (n := 2) hs hl hc (st_rows hst (by decide)) hf) (tRun2_2_0 s bung dip _ _ (okAllT (n := 2) (j := 0) hl hz hc hst (okFd hl hc hf hcc)))
          · exact law_winT hl hw hob (okGood (n := 3) hs hl hc (st_rows hst (by decide)) hf) (tRun2_3_0 s bung dip _ _ (okAllT (n := 3) (j := 0) hl hz hc hst (okFd hl hc hf hcc)))
          · exact law_winT hl hw hob (okGood (n := 4) hs hl hc (st_rows hst (by decide)) hf) (tRun2_4_0 s bung dip _ _ (okAllT (n := 4) (j := 0) hl hz hc hst (okFd hl hc hf hcc)))
          · exact law_winT hl hw hob (okGood (n := 5) hs hl hc (st_rows hst (by decide)) hf) (tRun2_5_0 s bung dip _ _ (okAllT (n := 5) (j := 0) hl hz hc hst (okFd hl hc hf hcc)))
          · exact law_winT hl hw hob (okGood (n := 6) hs hl hc (st_rows hst (by decide)) hf) (tRun2_6_0 s bung dip _ _ (okAllT (n := 6) (j := 0) hl hz hc hst (okFd hl hc hf hcc)))
          · exact law_winT hl hw hob (okGood (n := 7) hs hl hc (st_rows hst (by decide)) hf) (tRun2_7_0 s bung dip _ _ (okAllT (n := 7) (j := 0) hl hz hc hst (okFd hl hc hf hcc)))
          · exact law_winT hl hw hob (okGood (n := 8) hs hl hc (st_rows hst (by decide)) hf) (tRun2_8_0 s bung dip _ _ (okAllT (n := 8) (j := 0) hl hz hc hst (okFd hl hc hf hcc)))
          · exact law_winT hl hw hob (okGood (n := 9) hs hl hc (st_rows hst (by decide)) hf) (tRun2_9_0 s bung dip _ _ (okAllT (n := 9) (j := 0) hl hz hc hst (okFd hl hc hf hcc)))
          · exact law_winT hl hw hob (okGood (n := 10) hs hl hc (st_rows hst (by decide)) hf) (tRun2_10_0 s bung dip _ _ (okAllT (n := 10) (j := 0) hl hz hc hst (okFd hl hc hf hcc)))
          · exact law_winT hl hw hob (okGood (n := 11) hs hl hc (st_rows hst (by decide)) hf) (tRun2_11_0 s bung dip _ _ (okAllT (n := 11) (j := 0) hl hz hc hst (okFd hl hc hf hcc)))
          · exact law_winT hl hw hob (okGood (n := 12) hs hl hc (st_rows hst (by decide)) hf) (tRun2_12_0 s bung dip _ _ (okAllT (n := 12) (j := 0) hl hz hc hst (okFd hl hc hf hcc)))
          · exact law_winT hl hw hob (okGood (n := 13) hs hl hc (st_rows hst (by decide)) hf) (tRun2_13_0 s bung dip _ _ (okAllT (n := 13) (j := 0) hl hz hc hst (okFd hl hc hf hcc)))
        · rcases rows_cases hn with rfl | rfl | rfl | rfl | rfl | rfl | rfl | rfl | rfl | rfl | rfl | rfl | rfl | rfl | rfl
          · exact law_winT hl hw hob (okGood (n := 0) hs hl hc (.inr rfl) hf) (tRun3_100_0 s bung dip _ _ (okAllT (n := 100) (j := 0) hl hz hc hst (okFd hl hc hf hcc)))
          · exact law_winT hl hw hob (okGood (n := 0) hs hl hc (.inr rfl) hf) (tRun3_101_0 s bung dip _ _ (okAllT (n := 101) (j := 0) hl hz hc hst (okFd hl hc hf hcc)))
          · exact law_winT hl hw hob (okGood (n := 1) hs hl hc (st_rows hst (by decide)) hf) (tRun3_1_0 s bung dip _ _ (okAllT (n := 1) (j := 0) hl hz hc hst (okFd hl hc hf hcc)))
          · exact law_winT hl hw hob (okGood (n := 2) hs hl hc (st_rows hst (by decide)) hf) (tRun3_2_0 s bung dip _ _ (okAllT (n := 2) (j := 0) hl hz hc hst (okFd hl hc hf hcc)))
          · exact law_winT hl hw hob (okGood (n := 3) hs hl hc (st_rows hst (by decide)) hf) (tRun3_3_0 s bung dip _ _ (okAllT (n := 3) (j := 0) hl hz hc hst (okFd hl hc hf hcc)))
          · exact law_winT hl hw hob (okGood (n := 4) hs hl hc (st_rows hst (by decide)) hf) (tRun3_4_0 s bung dip _ _ (okAllT (n := 4) (j := 0) hl hz hc hst (okFd hl hc hf hcc)))
          · exact law_winT hl hw hob (okGood (n := 5) hs hl hc (st_rows hst (by decide)) hf) (tRun3_5_0 s bung dip _ _ (okAllT (n := 5) (j := 0) hl hz hc hst (okFd hl hc hf hcc)))
          · exact law_winT hl hw hob (okGood (n := 6) hs hl hc (st_rows hst (by decide)) hf) (tRun3_6_0 s bung dip _ _ (okAllT (n := 6) (j := 0) hl hz hc hst (okFd hl hc hf hcc)))
          · exact law_winT hl hw hob (okGood (n := 7) hs hl hc (st_rows hst (by decide)) hf) (tRun3_7_0 s bung dip _ _ (okAllT (n := 7) (j := 0) hl hz hc hst (okFd hl hc hf hcc)))
          · exact law_winT hl hw hob (okGood (n := 8) hs hl hc (st_rows hst (by decide)) hf) (tRun3_8_0 s bung dip _ _ (okAllT (n := 8) (j := 0) hl hz hc hst (okFd hl hc hf hcc)))
          · exact law_winT hl hw hob (okGood (n := 9) hs hl hc (st_rows hst (by decide)) hf) (tRun3_9_0 s bung dip _ _ (okAllT (n := 9) (j := 0) hl hz hc hst (okFd hl hc hf hcc)))
          · exact law_winT hl hw hob (okGood (n := 10) hs hl hc (st_rows hst (by decide)) hf) (tRun3_10_0 s bung dip _ _ (okAllT (n := 10) (j := 0) hl hz hc hst (okFd hl hc hf hcc)))
          · exact law_winT hl hw hob (okGood (n := 11) hs hl hc (st_rows hst (by decide)) hf) (tRun3_11_0 s bung dip _ _ (okAllT (n := 11) (j := 0) hl hz hc hst (okFd hl hc hf hcc)))
          · exact law_winT hl hw hob (okGood (n := 12) hs hl hc (st_rows hst (by decide)) hf) (tRun3_12_0 s bung dip _ _ (okAllT (n := 12) (j := 0) hl hz hc hst (okFd hl hc hf hcc)))
          · exact law_winT hl hw hob (okGood (n := 13) hs hl hc (st_rows hst (by decide)) hf) (tRun3_13_0 s bung dip _ _ (okAllT (n := 13) (j := 0) hl hz hc hst (okFd hl hc hf hcc)))
        · rcases rows_cases hn with rfl | rfl | rfl | rfl | rfl | rfl | rfl | rfl | rfl | rfl | rfl | rfl | rfl | rfl | rfl
          · exact law_winT hl hw hob (okGood (n := 0) hs hl hc (.inr rfl) hf) (tRun4_100_0 s bung dip _ _ (okAllT (n := 100) (j := 0) hl hz hc hst (okFd hl hc hf hcc)))
          · exact law_winT hl hw hob (okGood (n := 0) hs hl hc (.inr rfl) hf) (tRun4_101_0 s bung dip _ _ (okAllT (n := 101) (j := 0) hl hz hc hst (okFd hl hc hf hcc)))
          · exact law_winT hl hw hob (okGood (n := 1) hs hl hc (st_rows hst (by decide)) hf) (tRun4_1_0 s bung dip _ _ (okAllT (n := 1) (j := 0) hl hz hc hst (okFd hl hc hf hcc)))
          · exact law_winT hl hw hob (okGood (n := 2) hs hl hc (st_rows hst (by decide)) hf) (tRun4_2_0 s bung dip _ _ (okAllT (n := 2) (j := 0) hl hz hc hst (okFd hl hc hf hcc)))
          · exact law_winT hl hw hob (okGood (n := 3) hs hl hc (st_rows hst (by decide)) hf) (tRun4_3_0 s bung dip _ _ (okAllT (n := 3) (j := 0) hl hz hc hst (okFd hl hc hf hcc)))
          · exact law_winT hl hw hob (okGood (n := 4) hs hl hc (st_rows hst (by decide)) hf) (tRun4_4_0 s bung dip _ _ (okAllT (n := 4) (j := 0) hl hz hc hst (okFd hl hc hf hcc)))
          · exact law_winT hl hw hob (okGood (n := 5) hs hl hc (st_rows hst (by decide)) hf) (tRun4_5_0 s bung dip _ _ (okAllT (n := 5) (j := 0) hl hz hc hst (okFd hl hc hf hcc)))
          · exact law_winT hl hw hob (okGood (n := 6) hs hl hc (st_rows hst (by decide)) hf) (tRun4_6_0 s bung dip _ _ (okAllT (n := 6) (j := 0) hl hz hc hst (okFd hl hc hf hcc)))
          · exact law_winT hl hw hob (okGood (n := 7) hs hl hc (st_rows hst (by decide)) hf) (tRun4_7_0 s bung dip _ _ (okAllT (n := 7) (j := 0) hl hz hc hst (okFd hl hc hf hcc)))
          · exact law_winT hl hw hob (okGood (n := 8) hs hl hc (st_rows hst (by decide)) hf) (tRun4_8_0 s bung dip _ _ (okAllT (n := 8) (j := 0) hl hz hc hst (okFd hl hc hf hcc)))
          · exact law_winT hl hw hob (okGood (n := 9) hs hl hc (st_rows hst (by decide)) hf) (tRun4_9_0 s bung dip _ _ (okAllT (n := 9) (j := 0) hl hz hc hst (okFd hl hc hf hcc)))
          · exact law_winT hl hw hob (okGood (n := 10) hs hl hc (st_rows hst (by decide)) hf) (tRun4_10_0 s bung dip _ _ (okAllT (n := 10) (j := 0) hl hz hc hst (okFd hl hc hf hcc)))
          · exact law_winT hl hw hob (okGood (n := 11) hs hl hc (st_rows hst (by decide)) hf) (tRun4_11_0 s bung dip _ _ (okAllT (n := 11) (j := 0) hl hz hc hst (okFd hl hc hf hcc)))
          · exact law_winT hl hw hob (okGood (n := 12) hs hl hc (st_rows hst (by decide)) hf) (tRun4_12_0 s bung dip _ _ (okAllT (n := 12) (j := 0) hl hz hc hst (okFd hl hc hf hcc)))
          · exact law_winT hl hw hob (okGood (n := 13) hs hl hc (st_rows hst (by decide)) hf) (tRun4_13_0 s bung dip _ _ (okAllT (n := 13) (j := 0) hl hz hc hst (okFd hl hc hf hcc)))
      · rcases hN with rfl | rfl | rfl
        · rcases rows_cases hn with rfl | rfl | rfl | rfl | rfl | rfl | rfl | rfl | rfl | rfl | rfl | rfl | rfl | rfl | rfl
          · exact law_winT hl hw hob (okGood (n := 0) hs hl hc (.inr rfl) hf) (tRun2_100_1 s bung dip _ _ (okAllT (n := 100) (j := 1) hl hz hc hst (okFd hl hc hf hcc)))
          · exact law_winT hl hw hob (okGood (n := 0) hs hl hc (.inr rfl) hf) (tRun2_101_1 s bung dip _ _ (okAllT (n := 101) (j := 1) hl hz hc hst (okFd hl hc hf hcc)))
          · exact law_winT hl hw hob (okGood (n := 1) hs hl hc (st_rows hst (by decide)) hf) (tRun2_1_1 s bung dip _ _ (okAllT (n := 1) (j := 1) hl hz hc hst (okFd hl hc hf hcc)))
          · exact law_winT hl hw hob (okGood (n := 2) hs hl hc (st_rows hst (by decide)) hf) (tRun2_2_1 s bung dip _ _ (okAllT (n := 2) (j := 1) hl hz hc hst (okFd hl hc hf hcc)))
          · exact law_winT hl hw hob (okGood (n := 3) hs hl hc (st_rows hst (by decide)) hf) (tRun2_3_1 s bung dip _ _ (okAllT (n := 3) (j := 1) hl hz hc hst (okFd hl hc hf hcc)))
          · exact law_winT hl hw hob (okGood (n := 4) hs hl hc (st_rows hst (by decide)) hf) (tRun2_4_1 s bung dip _ _ (okAllT (n := 4) (j := 1) hl hz hc hst (okFd hl hc hf hcc)))
          · exact law_winT hl hw hob (okGood (n := 5) hs hl hc (st_rows hst (by decide)) hf) (tRun2_5_1 s bung dip _ _ (okAllT (n := 5) (j := 1) hl hz hc hst (okFd hl hc hf hcc)))
          · exact law_winT hl hw hob (okGood (n := 6) hs hl hc (st_rows hst (by decide)) hf) (tRun2_6_1 s bung dip _ _ (okAllT (n := 6) (j := 1) hl hz hc hst (okFd hl hc hf hcc)))
          · exact law_winT hl hw hob (okGood (n := 7) hs hl hc (st_rows hst (by decide)) hf) (tRun2_7_1 s bung dip _ _ (okAllT (n := 7) (j := 1) hl hz hc hst (okFd hl hc hf hcc)))
          · exact law_winT hl hw hob (okGood (n := 8) hs hl hc (st_rows hst (by decide)) hf) (tRun2_8_1 s bung dip _ _ (okAllT (n := 8) (j := 1) hl hz hc hst (okFd hl hc hf hcc)))
          · exact law_winT hl hw hob (okGood (n := 9) hs hl hc (st_rows hst (by decide)) hf) (tRun2_9_1 s bung dip _ _ (okAllT (n := 9) (j := 1) hl hz hc hst (okFd hl hc hf hcc)))
          · exact law_winT hl hw hob (okGood (n := 10) hs hl hc (st_rows hst (by decide)) hf) (tRun2_10_1 s bung dip _ _ (okAllT (n := 10) (j := 1) hl hz hc hst (okFd hl hc hf hcc)))
          · exact law_winT hl hw hob (okGood (n := 11) hs hl hc (st_rows hst (by decide)) hf) (tRun2_11_1 s bung dip _ _ (okAllT (n := 11) (j := 1) hl hz hc hst (okFd hl hc hf hcc)))
          · exact law_winT hl hw hob (okGood (n := 12) hs hl hc (st_rows hst (by decide)) hf) (tRun2_12_1 s bung dip _ _ (okAllT (n := 12) (j := 1) hl hz hc hst (okFd hl hc hf hcc)))
          · exact law_winT hl hw hob (okGood (n := 13) hs hl hc (st_rows hst (by decide)) hf) (tRun2_13_1 s bung dip _ _ (okAllT (n := 13) (j := 1) hl hz hc hst (okFd hl hc hf hcc)))
        · rcases rows_cases hn with rfl | rfl | rfl | rfl | rfl | rfl | rfl | rfl | rfl | rfl | rfl | rfl | rfl | rfl | rfl
          · exact law_winT hl hw hob (okGood (n := 0) hs hl hc (.inr rfl) hf) (tRun3_100_1 s bung dip _ _ (okAllT (n := 100) (j := 1) hl hz hc hst (okFd hl hc hf hcc)))
          · exact law_winT hl hw hob (okGood (n := 0) hs hl hc (.inr rfl) hf) (tRun3_101_1 s bung dip _ _ (okAllT (n := 101) (j := 1) hl hz hc hst (okFd hl hc hf hcc)))
          · exact law_winT hl hw hob (okGood (n := 1) hs hl hc (st_rows hst (by decide)) hf) (tRun3_1_1 s bung dip _ _ (okAllT (n := 1) (j := 1) hl hz hc hst (okFd hl hc hf hcc)))
          · exact law_winT hl hw hob (okGood (n := 2) hs hl hc (st_rows hst (by decide)) hf) (tRun3_2_1 s bung dip _ _ (okAllT (n := 2) (j := 1) hl hz hc hst (okFd hl hc hf hcc)))
          · exact law_winT hl hw hob (okGood (n := 3) hs hl hc (st_rows hst (by decide)) hf) (tRun3_3_1 s bung dip _ _ (okAllT (n := 3) (j := 1) hl hz hc hst (okFd hl hc hf hcc)))
          · exact law_winT hl hw hob (okGood (n := 4) hs hl hc (st_rows hst (by decide)) hf) (tRun3_4_1 s bung dip _ _ (okAllT (n := 4) (j := 1) hl hz hc hst (okFd hl hc hf hcc)))
          · exact law_winT hl hw hob (okGood (n := 5) hs hl hc (st_rows hst (by decide)) hf) (tRun3_5_1 s bung dip _ _ (okAllT (n := 5) (j := 1) hl hz hc hst (okFd hl hc hf hcc)))
          · exact law_winT hl hw hob (okGood (n := 6) hs hl hc (st_rows hst (by decide)) hf) (tRun3_6_1 s bung dip _ _ (okAllT (n := 6) (j := 1) hl hz hc hst (okFd hl hc hf hcc)))
          · exact law_winT hl hw hob (okGood (n := 7) hs hl hc (st_rows hst (by decide)) hf) (tRun3_7_1 s bung dip _ _ (okAllT (n := 7) (j := 1) hl hz hc hst (okFd hl hc hf hcc)))
          · exact law_winT hl hw hob (okGood (n := 8) hs hl hc (st_rows hst (by decide)) hf) (tRun3_8_1 s bung dip _ _ (okAllT (n := 8) (j := 1) hl hz hc hst (okFd hl hc hf hcc)))
          · exact law_winT hl hw hob (okGood (n := 9) hs hl hc (st_rows hst (by decide)) hf) (tRun3_9_1 s bung dip _ _ (okAllT (n := 9) (j := 1) hl hz hc hst (okFd hl hc hf hcc)))
          · exact law_winT hl hw hob (okGood (n := 10) hs hl hc (st_rows hst (by decide)) hf) (tRun3_10_1 s bung dip _ _ (okAllT (n := 10) (j := 1) hl hz hc hst (okFd hl hc hf hcc)))
          · exact law_winT hl hw hob (okGood (n := 11) hs hl hc (st_rows hst (by decide)) hf) (tRun3_11_1 s bung dip _ _ (okAllT (n := 11) (j := 1) hl hz hc hst (okFd hl hc hf hcc)))
          · exact law_winT hl hw hob (okGood (n := 12) hs hl hc (st_rows hst (by decide)) hf) (tRun3_12_1 s bung dip _ _ (okAllT (n := 12) (j := 1) hl hz hc hst (okFd hl hc hf hcc)))
          · exact law_winT hl hw hob (okGood (n := 13) hs hl hc (st_rows hst (by decide)) hf) (tRun3_13_1 s bung dip _ _ (okAllT (n := 13) (j := 1) hl hz hc hst (okFd hl hc hf hcc)))
        · rcases rows_cases hn with rfl | rfl | rfl | rfl | rfl | rfl | rfl | rfl | rfl | rfl | rfl | rfl | rfl | rfl | rfl
          · exact law_winT hl hw hob (okGood (n := 0) hs hl hc (.inr rfl) hf) (tRun4_100_1 s bung dip _ _ (okAllT (n := 100) (j := 1) hl hz hc hst (okFd hl hc hf hcc)))
          · exact law_winT hl hw hob (okGood (n := 0) hs hl hc (.inr rfl) hf) (tRun4_101_1 s bung dip _ _ (okAllT (n := 101) (j := 1) hl hz hc hst (okFd hl hc hf hcc)))
          · exact law_winT hl hw hob (okGood (n := 1) hs hl hc (st_rows hst (by decide)) hf) (tRun4_1_1 s bung dip _ _ (okAllT (n := 1) (j := 1) hl hz hc hst (okFd hl hc hf hcc)))
          · exact law_winT hl hw hob (okGood (n := 2) hs hl hc (st_rows hst (by decide)) hf) (tRun4_2_1 s bung dip _ _ (okAllT (n := 2) (j := 1) hl hz hc hst (okFd hl hc hf hcc)))
          · exact law_winT hl hw hob (okGood (n := 3) hs hl hc (st_rows hst (by decide)) hf) (tRun4_3_1 s bung dip _ _ (okAllT (n := 3) (j := 1) hl hz hc hst (okFd hl hc hf hcc)))
          · exact law_winT hl hw hob (okGood (n := 4) hs hl hc (st_rows hst (by decide)) hf) (tRun4_4_1 s bung dip _ _ (okAllT (n := 4) (j := 1) hl hz hc hst (okFd hl hc hf hcc)))
          · exact law_winT hl hw hob (okGood (n := 5) hs hl hc (st_rows hst (by decide)) hf) (tRun4_5_1 s bung dip _ _ (okAllT (n := 5) (j := 1) hl hz hc hst (okFd hl hc hf hcc)))
          · exact law_winT hl hw hob (okGood (n := 6) hs hl hc (st_rows hst (by decide)) hf) (tRun4_6_1 s bung dip _ _ (okAllT (n := 6) (j := 1) hl hz hc hst (okFd hl hc hf hcc)))
          · exact law_winT hl hw hob (okGood (n := 7) hs hl hc (st_rows hst (by decide)) hf) (tRun4_7_1 s bung dip _ _ (okAllT (n := 7) (j := 1) hl hz hc hst (okFd hl hc hf hcc)))
          · exact law_winT hl hw hob (okGood (n := 8) hs hl hc (st_rows hst (by decide)) hf) (tRun4_8_1 s bung dip _ _ (okAllT (n := 8) (j := 1) hl hz hc hst (okFd hl hc hf hcc)))
          · exact law_winT hl hw hob (okGood (n := 9) hs hl hc (st_rows hst (by decide)) hf) (tRun4_9_1 s bung dip _ _ (okAllT (n := 9) (j := 1) hl hz hc hst (okFd hl hc hf hcc)))
          · exact law_winT hl hw hob (okGood (n := 10) hs hl hc (st_rows hst (by decide)) hf) (tRun4_10_1 s bung dip _ _ (okAllT (n := 10) (j := 1) hl hz hc hst (okFd hl hc hf hcc)))
          · exact law_winT hl hw hob (okGood (n := 11) hs hl hc (st_rows hst (by decide)) hf) (tRun4_11_1 s bung dip _ _ (okAllT (n := 11) (j := 1) hl hz hc hst (okFd hl hc hf hcc)))
          · exact law_winT hl hw hob (okGood (n := 12) hs hl hc (st_rows hst (by decide)) hf) (tRun4_12_1 s bung dip _ _ (okAllT (n := 12) (j := 1) hl hz hc hst (okFd hl hc hf hcc)))
          · exact law_winT hl hw hob (okGood (n := 13) hs hl hc (st_rows hst (by decide)) hf) (tRun4_13_1 s bung dip _ _ (okAllT (n := 13) (j := 1) hl hz hc hst (okFd hl hc hf hcc)))
    · rcases hN with rfl | rfl | rfl
      · rcases rows_cases hn with rfl | rfl | rfl | rfl | rfl | rfl | rfl | rfl | rfl | rfl | rfl | rfl | rfl | rfl | rfl
        · exact law_winT hl hw hob (okErr (n := 0) hs hl hc (.inr rfl) hf) (tRun2_100_2 s bung dip _ _ (okAllT (n := 100) (j := 2) hl hz hc hst (okFdB hl hc hf)))
        · exact law_winT hl hw hob (okErr (n := 0) hs hl hc (.inr rfl) hf) (tRun2_101_2 s bung dip _ _ (okAllT (n := 101) (j := 2) hl hz hc hst (okFdB hl hc hf)))
        · exact law_winT hl hw hob (okErr (n := 1) hs hl hc (st_rows hst (by decide)) hf) (tRun2_1_2 s bung dip _ _ (okAllT (n := 1) (j := 2) hl hz hc hst (okFdB hl hc hf)))
        · exact law_winT hl hw hob (okErr (n := 2) hs hl hc (st_rows hst (by decide)) hf) (tRun2_2_2 s bung dip _ _ (okAllT (n := 2) (j := 2) hl hz hc hst (okFdB hl hc hf)))
        · exact law_winT hl hw hob (okErr (n := 3) hs hl hc (st_rows hst (by decide)) hf) (tRun2_3_2 s bung dip _ _ (okAllT (n := 3) (j := 2) hl hz hc hst (okFdB hl hc hf)))
        · exact law_winT hl hw hob (okErr (n := 4) hs hl hc (st_rows hst (by decide)) hf) (tRun2_4_2 s bung dip _ _ (okAllT (n := 4) (j := 2) hl hz hc hst (okFdB hl hc hf)))
        · exact law_winT hl hw hob (okErr (n := 5) hs hl hc (st_rows hst (by decide)) hf) (tRun2_5_2 s bung dip _ _ (okAllT (n := 5) (j := 2) hl hz hc hst (okFdB hl hc hf)))
        · exact law_winT hl hw hob (okErr (n := 6) hs hl hc (st_rows hst (by decide)) hf) (tRun2_6_2 s bung dip _ _ (okAllT (n := 6) (j := 2) hl hz hc hst (okFdB hl hc hf)))
        · exact law_winT hl hw hob (okErr (n := 7) hs hl hc (st_rows hst (by decide)) hf) (tRun2_7_2 s bung dip _ _ (okAllT (n := 7) (j := 2) hl hz hc hst (okFdB hl hc hf)))
        · exact law_winT hl hw hob (okErr (n := 8) hs hl hc (st_rows hst (by decide)) hf) (tRun2_8_2 s bung dip _ _ (okAllT (n := 8) (j := 2) hl hz hc hst (okFdB hl hc hf)))
        · exact law_winT hl hw hob (okErr (n := 9) hs hl hc (st_rows hst (by decide)) hf) (tRun2_9_2 s bung dip _ _ (okAllT (n := 9) (j := 2) hl hz hc hst (okFdB hl hc hf)))
        · exact law_winT hl hw hob (okErr (n := 10) hs hl hc (st_rows hst (by decide)) hf) (tRun2_10_2 s bung dip _ _ (okAllT (n := 10) (j := 2) hl hz hc hst (okFdB hl hc hf)))
        · exact law_winT hl hw hob (okErr (n := 11) hs hl hc (st_rows hst (by decide)) hf) (tRun2_11_2 s bung dip _ _ (okAllT (n := 11) (j := 2) hl hz hc hst (okFdB hl hc hf)))
        · exact law_winT hl hw hob (okErr (n := 12) hs hl hc (st_rows hst (by decide)) hf) (tRun2_12_2 s bung dip _ _ (okAllT (n := 12) (j := 2) hl hz hc hst (okFdB hl hc hf)))
        · exact law_winT hl hw hob (okErr (n := 13) hs hl hc (st_rows hst (by decide)) hf) (tRun2_13_2 s bung dip _ _ (okAllT (n := 13) (j := 2) hl hz hc hst (okFdB hl hc hf)))
      · rcases rows_cases hn with rfl | rfl | rfl | rfl | rfl | rfl | rfl | rfl | rfl | rfl | rfl | rfl | rfl | rfl | rfl
        · exact law_winT hl hw hob (okErr (n := 0) hs hl hc (.inr rfl) hf) (tRun3_100_2 s bung dip _ _ (okAllT (n := 100) (j := 2) hl hz hc hst (okFdB hl hc hf)))
        · exact law_winT hl hw hob (okErr (n := 0) hs hl hc (.inr rfl) hf) (tRun3_101_2 s bung dip _ _ (okAllT (n := 101) (j := 2) hl hz hc hst (okFdB hl hc hf)))
        · exact law_winT hl hw hob (okErr (n := 1) hs hl hc (st_rows hst (by decide)) hf) (tRun3_1_2 s bung dip _ _ (okAllT (n := 1) (j := 2) hl hz hc hst (okFdB hl hc hf)))
        · exact law_winT hl hw hob (okErr (n := 2) hs hl hc (st_rows hst (by decide)) hf) (tRun3_2_2 s bung dip _ _ (okAllT (n := 2) (j := 2) hl hz hc hst (okFdB hl hc hf)))
        · exact law_winT hl hw hob (okErr (n := 3) hs hl hc (st_rows hst (by decide)) hf) (tRun3_3_2 s bung dip _ _ (okAllT (n := 3) (j := 2) hl hz hc hst (okFdB hl hc hf)))
        · exact law_winT hl hw hob (okErr (n := 4) hs hl hc (st_rows hst (by decide)) hf) (tRun3_4_2 s bung dip _ _ (okAllT (n := 4) (j := 2) hl hz hc hst (okFdB hl hc hf)))
        · exact law_winT hl hw hob (okErr (n := 5) hs hl hc (st_rows hst (by decide)) hf) (tRun3_5_2 s bung dip _ _ (okAllT (n := 5) (j := 2) hl hz hc hst (okFdB hl hc hf)))
        · exact law_winT hl hw hob (okErr (n := 6) hs hl hc (st_rows hst (by decide)) hf) (tRun3_6_2 s bung dip _ _ (okAllT (n := 6) (j := 2) hl hz hc hst (okFdB hl hc hf)))
        · exact law_winT hl hw hob (okErr (n := 7) hs hl hc (st_rows hst (by decide)) hf) (tRun3_7_2 s bung dip _ _ (okAllT (n := 7) (j := 2) hl hz hc hst (okFdB hl hc hf)))
        · exact law_winT hl hw hob (okErr (n := 8) hs hl hc (st_rows hst (by decide)) hf) (tRun3_8_2 s bung dip _ _ (okAllT (n := 8) (j := 2) hl hz hc hst (okFdB hl hc hf)))
        · exact law_winT hl hw hob (okErr (n := 9) hs hl hc (st_rows hst (by decide)) hf) (tRun3_9_2 s bung dip _ _ (okAllT (n := 9) (j := 2) hl hz hc hst (okFdB hl hc hf)))
        · exact law_winT hl hw hob (okErr (n := 10) hs hl hc (st_rows hst (by decide)) hf) (tRun3_10_2 s bung dip _ _ (okAllT (n := 10) (j := 2) hl hz hc hst (okFdB hl hc hf)))
        · exact law_winT hl hw hob (okErr (n := 11) hs hl hc (st_rows hst (by decide)) hf) (tRun3_11_2 s bung dip _ _ (okAllT (n := 11) (j := 2) hl hz hc hst (okFdB hl hc hf)))
        · exact law_winT hl hw hob (okErr (n := 12) hs hl hc (st_rows hst (by decide)) hf) (tRun3_12_2 s bung dip _ _ (okAllT (n := 12) (j := 2) hl hz hc hst (okFdB hl hc hf)))
        · exact law_winT hl hw hob (okErr (n := 13) hs hl hc (st_rows hst (by decide)) hf) (tRun3_13_2 s bung dip _ _ (okAllT (n := 13) (j := 2) hl hz hc hst (okFdB hl hc hf)))
      · rcases rows_cases hn with rfl | rfl | rfl | rfl | rfl | rfl | rfl | rfl | rfl | rfl | rfl | rfl | rfl | rfl | rfl
        · exact law_winT hl hw hob (okErr (n := 0) hs hl hc (.inr rfl) hf) (tRun4_100_2 s bung dip _ _ (okAllT (n := 100) (j := 2) hl hz hc hst (okFdB hl hc hf)))
        · exact law_winT hl hw hob (okErr (n := 0) hs hl hc (.inr rfl) hf) (tRun4_101_2 s bung dip _ _ (okAllT (n := 101) (j := 2) hl hz hc hst (okFdB hl hc hf)))
        · exact law_winT hl hw hob (okErr (n := 1) hs hl hc (st_rows hst (by decide)) hf) (tRun4_1_2 s bung dip _ _ (okAllT (n := 1) (j := 2) hl hz hc hst (okFdB hl hc hf)))
        · exact law_winT hl hw hob (okErr (n := 2) hs hl hc (st_rows hst (by decide)) hf) (tRun4_2_2 s bung dip _ _ (okAllT (n := 2) (j := 2) hl hz hc hst (okFdB hl hc hf)))
        · exact law_winT hl hw hob (okErr (n := 3) hs hl hc (st_rows hst (by decide)) hf) (tRun4_3_2 s bung dip _ _ (okAllT (n := 3) (j := 2) hl hz hc hst (okFdB hl hc hf)))
        · exact law_winT hl hw hob (okErr (n := 4) hs hl hc (st_rows hst (by decide)) hf) (tRun4_4_2 s bung dip _ _ (okAllT (n := 4) (j := 2) hl hz hc hst (okFdB hl hc hf)))
        · exact law_winT hl hw hob (okErr (n := 5) hs hl hc (st_rows hst (by decide)) hf) (tRun4_5_2 s bung dip _ _ (okAllT (n := 5) (j := 2) hl hz hc hst (okFdB hl hc hf)))
        · exact law_winT hl hw hob (okErr (n := 6) hs hl hc (st_rows hst (by decide)) hf) (tRun4_6_2 s bung dip _ _ (okAllT (n := 6) (j := 2) hl hz hc hst (okFdB hl hc hf)))
        · exact law_winT hl hw hob (okErr (n := 7) hs hl hc (st_rows hst (by decide)) hf) (tRun4_7_2 s bung dip _ _ (okAllT (n := 7) (j := 2) hl hz hc hst (okFdB hl hc hf)))
        · exact law_winT hl hw hob (okErr (n := 8) hs hl hc (st_rows hst (by decide)) hf) (tRun4_8_2 s bung dip _ _ (okAllT (n := 8) (j := 2) hl hz hc hst (okFdB hl hc hf)))
        · exact law_winT hl hw hob (okErr (n := 9) hs hl hc (st_rows hst (by decide)) hf) (tRun4_9_2 s bung dip _ _ (okAllT (n := 9) (j := 2) hl hz hc hst (okFdB hl hc hf)))
        · exact law_winT hl hw hob (okErr (n := 10) hs hl hc (st_rows hst (by decide)) hf) (tRun4_10_2 s bung dip _ _ (okAllT (n := 10) (j := 2) hl hz hc hst (okFdB hl hc hf)))
        · exact law_winT hl hw hob (okErr (n := 11) hs hl hc (st_rows hst (by decide)) hf) (tRun4_11_2 s bung dip _ _ (okAllT (n := 11) (j := 2) hl hz hc hst (okFdB hl hc hf)))
        · exact law_winT hl hw hob (okErr (n := 12) hs hl hc (st_rows hst (by decide)) hf) (tRun4_12_2 s bung dip _ _ (okAllT (n := 12) (j := 2) hl hz hc hst (okFdB hl hc hf)))
        · exact law_winT hl hw hob (okErr (n := 13) hs hl hc (st_rows hst (by decide)) hf) (tRun4_13_2 s bung dip _ _ (okAllT (n := 13) (j := 2) hl hz hc hst (okFdB hl hc hf)))
  · rcases hN with rfl | rfl | rfl | rfl | rfl | rfl
    · exact law_winT hl hw hob (okGTA hs) (tBad1_run s bung dip _ _ (okTBad hl hz))
    · exact law_winT hl hw hob (okGTA hs) (tBad2_run s bung dip _ _ (okTBad hl hz))
    · exact law_winT hl hw hob (okGTA hs) (tBad3_run s bung dip _ _ (okTBad hl hz))
    · exact law_winT hl hw hob (okGTA hs) (tBad4_run s bung dip _ _ (okTBad hl hz))
    · exact law_winT hl hw hob (okGTA hs) (tBad13_run s bung dip _ _ (okTBad hl hz))
    · exact law_winT hl hw hob (okGTA hs) (tBad14_run s bung dip _ _ (okTBad hl hz))
def argsTY : List Value := [c3, hN 4, .agg #[hN 5, hN 6, hN 7]]
def stY : Value := tFi [errV 0, tN (hN 4) 10 (tI 800)]
def fdY : Value := tFi [errV 0, tN (hN 5) 0 (tI 100000), tN (hN 6) 0 (tI 0), tN (hN 7) 0 (tI 0)]
def yBadT : List Fact := [(0, errV 0, tI 0, false), (0, stY, tI 0, false), (0, stY, errV 0, true), (0, fdY, tI 0, false), (0, fdY, errV 0, true)]
noncomputable def spYT : CallF := spOr spYE (spOr (spCopyY 13) (spOr (spNum numsT) (spOr (spList 29 104) (spCask 52 isName0))))
theorem tBig_run (s : ByteArray) (bung : Int) (v : Value) (is : List Int) (ok) : fstO (evDS (pgY s bung v is [] ok) (spYS false) 2000 60 (.fn 6) argsTY .leaf 0) = some (.bool true) := by kernel_rfl
theorem tNone_run (s : ByteArray) (bung : Int) (v : Value) (is : List Int) (ok) : fstO (evDS (pgY s bung v is yBadT ok) spYT 2000 60 (.fn 6) argsTY .leaf 0) = some (.bool true) := by kernel_rfl
theorem okYT {s : ByteArray} {bung : Int} {sa : Option Addr} {cap : Nat} {is : List Int} {l ok} (hs : smallB s 0 bung = true) : CallOk (pgY s bung (.slice sa 0 cap) is l ok) spYT :=
  ok_spOr (okYE hs) (ok_spOr (ok_spCopyY rfl rfl) (ok_spOr (ok_spNum (ok_numsT rfl rfl)) (ok_spOr (ok_spList (ok_listG rfl rfl)) (ok_spCask rfl rfl (isName0_rel rfl rfl)))))
theorem okYBadT {s : ByteArray} {bung : Int} {sa : Option Addr} {cap : Nat} {is : List Int} : ∀ f ∈ yBadT, OkF (DY s bung (.slice sa 0 cap) is) f := by
  have db : Dv (DY s bung (.slice sa 0 cap) is) hBung bung := .hole rfl
  have de : Dv (DY s bung (.slice sa 0 cap) is) (errV 0) (caskS s bung []).2 := app1 (t := 121) (by decide) db
  have hne := caskS0_ne s bung
  have h1 : Dv (DY s bung (.slice sa 0 cap) is) stY (firstL [(caskS s bung []).2, numE (is.getD 0 0) 10 800]) := app2 (t := 104) (by decide) de (app3 (t := 103) (by decide) (.hole rfl) (.lit 10) (.lit 800))
  have h2 : Dv (DY s bung (.slice sa 0 cap) is) fdY (firstL [(caskS s bung []).2, numE (is.getD 1 0) 0 100000, numE (is.getD 2 0) 0 0, numE (is.getD 3 0) 0 0]) := app4 (t := 104) (by decide) de (app3 (t := 103) (by decide) (.hole rfl) (.lit 0) (.lit 100000)) (app3 (t := 103) (by decide) (.hole rfl) (.lit 0) (.lit 0)) (app3 (t := 103) (by decide) (.hole rfl) (.lit 0) (.lit 0))
  rw [firstL_cons1 hne] at h1 h2
  intro f hf
  simp only [yBadT, List.mem_cons, List.not_mem_nil, or_false] at hf
  rcases hf with rfl | rfl | rfl | rfl | rfl
  · exact eq_no de (.lit 0) hne
  · exact eq_no h1 (.lit 0) hne
  · exact eq_yes h1 de rfl
  · exact eq_no h2 (.lit 0) hne
  · exact eq_yes h2 de rfl
theorem argsTY_rel {P : Pg} {s : ByteArray} {bung dip day dp wr : Int} {sa : Option Addr} {N cap : Nat} (hd : P.den = DY s bung (.slice sa N cap) [dip, day, dp, wr]) (M : Mp) : LRel P M argsTY [.agg #[.string s, .int .i64 bung, .slice sa N cap], .int .i64 dip, .agg #[.int .i64 day, .int .i64 dp, .int .i64 wr]] := by
  have d0 : Dv P.den (hN 4) dip := by rw [hd]; exact .hole rfl
  have d1 : Dv P.den (hN 5) day := by rw [hd]; exact .hole rfl
  have d2 : Dv P.den (hN 6) dp := by rw [hd]; exact .hole rfl
  have d3 : Dv P.den (hN 7) wr := by rw [hd]; exact .hole rfl
  exact LRel.cons (c3_relY hd M) (LRel.cons d0.vrel (LRel.cons (LRel.agg (LRel.cons d1.vrel (LRel.cons d2.vrel (LRel.cons d3.vrel (LRel.nil _))))) (LRel.nil _)))
theorem tab_any (s : ByteArray) (bung dip day dp wr : Int) (sa : Option Addr) (N cap b off : Nat) (f : Nat → Nat → Int) (w : World) (hs : 0 < N → sa = some ⟨b, off, none⟩) (hx : ∀ i j, i < N → j < 3 → w.cell? ⟨b, off + i * 3 + j, none⟩ = some (.int .i64 (f i j))) :
    Calls Try.prog 6 #[.agg #[.string s, .int .i64 bung, .slice sa N cap], .int .i64 dip, .agg #[.int .i64 day, .int .i64 dp, .int .i64 wr]] w fun e w' => e = .returned (.bool true) ∧ Below w.heap.size w w' := by
  cases hsm : smallB s N bung with
  | false => exact run_true (P := pgY s bung (.slice sa N cap) [dip, day, dp, wr] [] ok_none) rfl (by kernel_rfl) (okYS hsm) (tBig_run s bung (.slice sa N cap) [dip, day, dp, wr] ok_none) (fun M => argsTY_rel (N := N) rfl M) w
  | true =>
    have hN := small_N hsm
    by_cases h0 : N = 0
    · subst h0
      exact run_true (P := pgY s bung (.slice sa 0 cap) [dip, day, dp, wr] yBadT okYBadT) rfl (by kernel_rfl) (okYT hsm) (tNone_run s bung (.slice sa 0 cap) [dip, day, dp, wr] okYBadT) (fun M => argsTY_rel (N := 0) rfl M) w
    · rw [hs (by omega)]
      refine tab_win s bung dip day dp wr ((List.range (N * 3)).map fun k => f (k / 3) (k % 3)) N b off cap w (by omega) (by simp) (winAt_of (by omega) fun k hk => ?_) hsm
      have := hx (k / 3) (k % 3) (by omega) (by omega)
      rwa [show off + k / 3 * 3 + k % 3 = off + k by omega] at this
end Sy
end Go.Proofs.Ytpidgcmdimjkoaa
