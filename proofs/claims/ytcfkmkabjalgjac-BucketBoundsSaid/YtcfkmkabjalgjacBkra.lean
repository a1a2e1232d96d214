/- Contracts of the reference's buckets: Advance. -/
import Derived.Test.YtcfkmkabjalgjacBkr
namespace Go.Proofs.Ytcfkmkabjalgjac
open Go.RowKit
set_option linter.unusedVariables false
set_option linter.unusedSimpArgs false

set_option maxHeartbeats 2000000 in
theorem radv_any (b : Bk) (now : Int) (w : World) :
    Calls Try.prog 26 #[b.v, .int .i64 now] w fun e w' => e = .returned (.tuple #[(badv b now).1.v, .int .i64 (badv b now).2]) ∧ Below w.heap.size w w' := by
  by_cases h : Ok b
  · have HV := Lib.hid (fun w => rvalid_yes b w h)
    by_cases hn : now < 0
    · have HF := Lib.hid (show badv b now = (zero, 3) by unfold badv; rw [if_neg (by simpa using h), if_pos (by omega)])
      clear h
      unfold Bk.v zero at *
      go_enter Try.func26, Try.ntmps26
      go_wp2_with (first | (go_at_call 30; go_in) | (go_at_call 29; go_in))
      refine (HV.out _).mono ?_
      rintro e w1 ⟨rfl, hb1⟩
      obtain ⟨hc1, hf1⟩ := bcell hb1
      have hz1 := hb1.size
      try simp at hz1
      have HB1 : Below w.heap.size w w1 := Below.trans (by go_grown) (hb1.mono (by first | omega | (simp; done) | (simp; omega)))
      clear hb1
      have g1_0_0 : w1.cell? ⟨w.heap.size, 0, none⟩ = some (.int .i64 b.r) := by rw [hc1 _ _ (by first | omega | (simp; done) | (simp; omega))]; simp [go_sem]
      have g1_0_1 : w1.cell? ⟨w.heap.size, 1, none⟩ = some (.int .i64 b.p) := by rw [hc1 _ _ (by first | omega | (simp; done) | (simp; omega))]; simp [go_sem]
      have g1_0_2 : w1.cell? ⟨w.heap.size, 2, none⟩ = some (.int .i64 b.s) := by rw [hc1 _ _ (by first | omega | (simp; done) | (simp; omega))]; simp [go_sem]
      have g1_0_3 : w1.cell? ⟨w.heap.size, 3, none⟩ = some (.int .i64 b.l) := by rw [hc1 _ _ (by first | omega | (simp; done) | (simp; omega))]; simp [go_sem]
      have g1_0_4 : w1.cell? ⟨w.heap.size, 4, none⟩ = some (.int .i64 b.t) := by rw [hc1 _ _ (by first | omega | (simp; done) | (simp; omega))]; simp [go_sem]
      have k1_0_0 : w1.frozen? ⟨w.heap.size, 0, none⟩ = false := by rw [hf1 _ _ (by first | omega | (simp; done) | (simp; omega))]; simp [go_sem]
      have k1_0_1 : w1.frozen? ⟨w.heap.size, 1, none⟩ = false := by rw [hf1 _ _ (by first | omega | (simp; done) | (simp; omega))]; simp [go_sem]
      have k1_0_2 : w1.frozen? ⟨w.heap.size, 2, none⟩ = false := by rw [hf1 _ _ (by first | omega | (simp; done) | (simp; omega))]; simp [go_sem]
      have k1_0_3 : w1.frozen? ⟨w.heap.size, 3, none⟩ = false := by rw [hf1 _ _ (by first | omega | (simp; done) | (simp; omega))]; simp [go_sem]
      have k1_0_4 : w1.frozen? ⟨w.heap.size, 4, none⟩ = false := by rw [hf1 _ _ (by first | omega | (simp; done) | (simp; omega))]; simp [go_sem]
      have y1_0 : w.heap.size < w1.heap.size := by omega
      have g1_1_0 : w1.cell? ⟨w.heap.size + 1, 0, none⟩ = some (.int .i64 0) := by rw [hc1 _ _ (by first | omega | (simp; done) | (simp; omega))]; simp [go_sem]
      have g1_1_1 : w1.cell? ⟨w.heap.size + 1, 1, none⟩ = some (.int .i64 0) := by rw [hc1 _ _ (by first | omega | (simp; done) | (simp; omega))]; simp [go_sem]
      have g1_1_2 : w1.cell? ⟨w.heap.size + 1, 2, none⟩ = some (.int .i64 0) := by rw [hc1 _ _ (by first | omega | (simp; done) | (simp; omega))]; simp [go_sem]
      have g1_1_3 : w1.cell? ⟨w.heap.size + 1, 3, none⟩ = some (.int .i64 0) := by rw [hc1 _ _ (by first | omega | (simp; done) | (simp; omega))]; simp [go_sem]
      have g1_1_4 : w1.cell? ⟨w.heap.size + 1, 4, none⟩ = some (.int .i64 0) := by rw [hc1 _ _ (by first | omega | (simp; done) | (simp; omega))]; simp [go_sem]
      have k1_1_0 : w1.frozen? ⟨w.heap.size + 1, 0, none⟩ = false := by rw [hf1 _ _ (by first | omega | (simp; done) | (simp; omega))]; simp [go_sem]
      have k1_1_1 : w1.frozen? ⟨w.heap.size + 1, 1, none⟩ = false := by rw [hf1 _ _ (by first | omega | (simp; done) | (simp; omega))]; simp [go_sem]
      have k1_1_2 : w1.frozen? ⟨w.heap.size + 1, 2, none⟩ = false := by rw [hf1 _ _ (by first | omega | (simp; done) | (simp; omega))]; simp [go_sem]
      have k1_1_3 : w1.frozen? ⟨w.heap.size + 1, 3, none⟩ = false := by rw [hf1 _ _ (by first | omega | (simp; done) | (simp; omega))]; simp [go_sem]
      have k1_1_4 : w1.frozen? ⟨w.heap.size + 1, 4, none⟩ = false := by rw [hf1 _ _ (by first | omega | (simp; done) | (simp; omega))]; simp [go_sem]
      have y1_1 : w.heap.size + 1 < w1.heap.size := by omega
      clear hc1 hf1 hz1
      go_wp2
      rw [HF.out]
      refine bodyPost_ret (v := .tuple #[.agg #[.int .i64 0, .int .i64 0, .int .i64 0, .int .i64 0, .int .i64 0], .int .i64 3]) (by simp [results, Try.results26, go_sem, g1_1_0, g1_1_1, g1_1_2, g1_1_3, g1_1_4, y1_1]) rfl ?_
      exact ⟨rfl, by go_grown⟩
    · by_cases hn2 : 1048576 < now
      · have HF := Lib.hid (show badv b now = (zero, 3) by unfold badv; rw [if_neg (by simpa using h), if_pos (by omega)])
        have hn3 : decide (now ≤ 1048576) = false := by simp; omega
        clear h
        unfold Bk.v zero at *
        go_enter Try.func26, Try.ntmps26
        go_wp2_with (first | (go_at_call 30; go_in) | (go_at_call 29; go_in))
        refine (HV.out _).mono ?_
        rintro e w1 ⟨rfl, hb1⟩
        obtain ⟨hc1, hf1⟩ := bcell hb1
        have hz1 := hb1.size
        try simp at hz1
        have HB1 : Below w.heap.size w w1 := Below.trans (by go_grown) (hb1.mono (by first | omega | (simp; done) | (simp; omega)))
        clear hb1
        have g1_0_0 : w1.cell? ⟨w.heap.size, 0, none⟩ = some (.int .i64 b.r) := by rw [hc1 _ _ (by first | omega | (simp; done) | (simp; omega))]; simp [go_sem]
        have g1_0_1 : w1.cell? ⟨w.heap.size, 1, none⟩ = some (.int .i64 b.p) := by rw [hc1 _ _ (by first | omega | (simp; done) | (simp; omega))]; simp [go_sem]
        have g1_0_2 : w1.cell? ⟨w.heap.size, 2, none⟩ = some (.int .i64 b.s) := by rw [hc1 _ _ (by first | omega | (simp; done) | (simp; omega))]; simp [go_sem]
        have g1_0_3 : w1.cell? ⟨w.heap.size, 3, none⟩ = some (.int .i64 b.l) := by rw [hc1 _ _ (by first | omega | (simp; done) | (simp; omega))]; simp [go_sem]
        have g1_0_4 : w1.cell? ⟨w.heap.size, 4, none⟩ = some (.int .i64 b.t) := by rw [hc1 _ _ (by first | omega | (simp; done) | (simp; omega))]; simp [go_sem]
        have k1_0_0 : w1.frozen? ⟨w.heap.size, 0, none⟩ = false := by rw [hf1 _ _ (by first | omega | (simp; done) | (simp; omega))]; simp [go_sem]
        have k1_0_1 : w1.frozen? ⟨w.heap.size, 1, none⟩ = false := by rw [hf1 _ _ (by first | omega | (simp; done) | (simp; omega))]; simp [go_sem]
        have k1_0_2 : w1.frozen? ⟨w.heap.size, 2, none⟩ = false := by rw [hf1 _ _ (by first | omega | (simp; done) | (simp; omega))]; simp [go_sem]
        have k1_0_3 : w1.frozen? ⟨w.heap.size, 3, none⟩ = false := by rw [hf1 _ _ (by first | omega | (simp; done) | (simp; omega))]; simp [go_sem]
        have k1_0_4 : w1.frozen? ⟨w.heap.size, 4, none⟩ = false := by rw [hf1 _ _ (by first | omega | (simp; done) | (simp; omega))]; simp [go_sem]
        have y1_0 : w.heap.size < w1.heap.size := by omega
        have g1_1_0 : w1.cell? ⟨w.heap.size + 1, 0, none⟩ = some (.int .i64 0) := by rw [hc1 _ _ (by first | omega | (simp; done) | (simp; omega))]; simp [go_sem]
        have g1_1_1 : w1.cell? ⟨w.heap.size + 1, 1, none⟩ = some (.int .i64 0) := by rw [hc1 _ _ (by first | omega | (simp; done) | (simp; omega))]; simp [go_sem]
        have g1_1_2 : w1.cell? ⟨w.heap.size + 1, 2, none⟩ = some (.int .i64 0) := by rw [hc1 _ _ (by first | omega | (simp; done) | (simp; omega))]; simp [go_sem]
        have g1_1_3 : w1.cell? ⟨w.heap.size + 1, 3, none⟩ = some (.int .i64 0) := by rw [hc1 _ _ (by first | omega | (simp; done) | (simp; omega))]; simp [go_sem]
        have g1_1_4 : w1.cell? ⟨w.heap.size + 1, 4, none⟩ = some (.int .i64 0) := by rw [hc1 _ _ (by first | omega | (simp; done) | (simp; omega))]; simp [go_sem]
        have k1_1_0 : w1.frozen? ⟨w.heap.size + 1, 0, none⟩ = false := by rw [hf1 _ _ (by first | omega | (simp; done) | (simp; omega))]; simp [go_sem]
        have k1_1_1 : w1.frozen? ⟨w.heap.size + 1, 1, none⟩ = false := by rw [hf1 _ _ (by first | omega | (simp; done) | (simp; omega))]; simp [go_sem]
        have k1_1_2 : w1.frozen? ⟨w.heap.size + 1, 2, none⟩ = false := by rw [hf1 _ _ (by first | omega | (simp; done) | (simp; omega))]; simp [go_sem]
        have k1_1_3 : w1.frozen? ⟨w.heap.size + 1, 3, none⟩ = false := by rw [hf1 _ _ (by first | omega | (simp; done) | (simp; omega))]; simp [go_sem]
        have k1_1_4 : w1.frozen? ⟨w.heap.size + 1, 4, none⟩ = false := by rw [hf1 _ _ (by first | omega | (simp; done) | (simp; omega))]; simp [go_sem]
        have y1_1 : w.heap.size + 1 < w1.heap.size := by omega
        clear hc1 hf1 hz1
        go_wp2
        rw [HF.out]
        refine bodyPost_ret (v := .tuple #[.agg #[.int .i64 0, .int .i64 0, .int .i64 0, .int .i64 0, .int .i64 0], .int .i64 3]) (by simp [results, Try.results26, go_sem, g1_1_0, g1_1_1, g1_1_2, g1_1_3, g1_1_4, y1_1]) rfl ?_
        exact ⟨rfl, by go_grown⟩
      · have HN := Lib.hid (show ¬ (now < 0 ∨ 1048576 < now) by omega)
        have n0 : 0 ≤ now := by omega
        have n1 : now ≤ 1048576 := by omega
        have n3 : decide (now ≤ 1048576) = true := by simp; omega
        clear hn hn2
        by_cases ht : now < b.t
        · have HF := Lib.hid (show badv b now = (zero, 23) by unfold badv; rw [if_neg (by simpa using h), if_neg HN.out, if_pos ht])
          clear h
          unfold Bk.v zero at *
          go_enter Try.func26, Try.ntmps26
          go_wp2_with (first | (go_at_call 30; go_in) | (go_at_call 29; go_in))
          refine (HV.out _).mono ?_
          rintro e w1 ⟨rfl, hb1⟩
          obtain ⟨hc1, hf1⟩ := bcell hb1
          have hz1 := hb1.size
          try simp at hz1
          have HB1 : Below w.heap.size w w1 := Below.trans (by go_grown) (hb1.mono (by first | omega | (simp; done) | (simp; omega)))
          clear hb1
          have g1_0_0 : w1.cell? ⟨w.heap.size, 0, none⟩ = some (.int .i64 b.r) := by rw [hc1 _ _ (by first | omega | (simp; done) | (simp; omega))]; simp [go_sem]
          have g1_0_1 : w1.cell? ⟨w.heap.size, 1, none⟩ = some (.int .i64 b.p) := by rw [hc1 _ _ (by first | omega | (simp; done) | (simp; omega))]; simp [go_sem]
          have g1_0_2 : w1.cell? ⟨w.heap.size, 2, none⟩ = some (.int .i64 b.s) := by rw [hc1 _ _ (by first | omega | (simp; done) | (simp; omega))]; simp [go_sem]
          have g1_0_3 : w1.cell? ⟨w.heap.size, 3, none⟩ = some (.int .i64 b.l) := by rw [hc1 _ _ (by first | omega | (simp; done) | (simp; omega))]; simp [go_sem]
          have g1_0_4 : w1.cell? ⟨w.heap.size, 4, none⟩ = some (.int .i64 b.t) := by rw [hc1 _ _ (by first | omega | (simp; done) | (simp; omega))]; simp [go_sem]
          have k1_0_0 : w1.frozen? ⟨w.heap.size, 0, none⟩ = false := by rw [hf1 _ _ (by first | omega | (simp; done) | (simp; omega))]; simp [go_sem]
          have k1_0_1 : w1.frozen? ⟨w.heap.size, 1, none⟩ = false := by rw [hf1 _ _ (by first | omega | (simp; done) | (simp; omega))]; simp [go_sem]
          have k1_0_2 : w1.frozen? ⟨w.heap.size, 2, none⟩ = false := by rw [hf1 _ _ (by first | omega | (simp; done) | (simp; omega))]; simp [go_sem]
          have k1_0_3 : w1.frozen? ⟨w.heap.size, 3, none⟩ = false := by rw [hf1 _ _ (by first | omega | (simp; done) | (simp; omega))]; simp [go_sem]
          have k1_0_4 : w1.frozen? ⟨w.heap.size, 4, none⟩ = false := by rw [hf1 _ _ (by first | omega | (simp; done) | (simp; omega))]; simp [go_sem]
          have y1_0 : w.heap.size < w1.heap.size := by omega
          have g1_1_0 : w1.cell? ⟨w.heap.size + 1, 0, none⟩ = some (.int .i64 0) := by rw [hc1 _ _ (by first | omega | (simp; done) | (simp; omega))]; simp [go_sem]
          have g1_1_1 : w1.cell? ⟨w.heap.size + 1, 1, none⟩ = some (.int .i64 0) := by rw [hc1 _ _ (by first | omega | (simp; done) | (simp; omega))]; simp [go_sem]
          have g1_1_2 : w1.cell? ⟨w.heap.size + 1, 2, none⟩ = some (.int .i64 0) := by rw [hc1 _ _ (by first | omega | (simp; done) | (simp; omega))]; simp [go_sem]
          have g1_1_3 : w1.cell? ⟨w.heap.size + 1, 3, none⟩ = some (.int .i64 0) := by rw [hc1 _ _ (by first | omega | (simp; done) | (simp; omega))]; simp [go_sem]
          have g1_1_4 : w1.cell? ⟨w.heap.size + 1, 4, none⟩ = some (.int .i64 0) := by rw [hc1 _ _ (by first | omega | (simp; done) | (simp; omega))]; simp [go_sem]
          have k1_1_0 : w1.frozen? ⟨w.heap.size + 1, 0, none⟩ = false := by rw [hf1 _ _ (by first | omega | (simp; done) | (simp; omega))]; simp [go_sem]
          have k1_1_1 : w1.frozen? ⟨w.heap.size + 1, 1, none⟩ = false := by rw [hf1 _ _ (by first | omega | (simp; done) | (simp; omega))]; simp [go_sem]
          have k1_1_2 : w1.frozen? ⟨w.heap.size + 1, 2, none⟩ = false := by rw [hf1 _ _ (by first | omega | (simp; done) | (simp; omega))]; simp [go_sem]
          have k1_1_3 : w1.frozen? ⟨w.heap.size + 1, 3, none⟩ = false := by rw [hf1 _ _ (by first | omega | (simp; done) | (simp; omega))]; simp [go_sem]
          have k1_1_4 : w1.frozen? ⟨w.heap.size + 1, 4, none⟩ = false := by rw [hf1 _ _ (by first | omega | (simp; done) | (simp; omega))]; simp [go_sem]
          have y1_1 : w.heap.size + 1 < w1.heap.size := by omega
          clear hc1 hf1 hz1
          go_wp2
          rw [HF.out]
          refine bodyPost_ret (v := .tuple #[.agg #[.int .i64 0, .int .i64 0, .int .i64 0, .int .i64 0, .int .i64 0], .int .i64 23]) (by simp [results, Try.results26, go_sem, g1_1_0, g1_1_1, g1_1_2, g1_1_3, g1_1_4, y1_1]) rfl ?_
          exact ⟨rfl, by go_grown⟩
        · by_cases hr : b.r = 4611686018427387904
          · have HF := Lib.hid (show badv b now = ({ b with t := now }, 0) by unfold badv; rw [if_neg (by simpa using h), if_neg HN.out, if_neg ht, if_pos hr])
            have hrb : (b.r == 4611686018427387904) = true := by simp [hr]
            clear h hr
            have hrn := bne_of hrb
            unfold Bk.v at *
            go_enter Try.func26, Try.ntmps26
            go_wp2_with (first | (go_at_call 30; go_in) | (go_at_call 29; go_in))
            refine (HV.out _).mono ?_
            rintro e w1 ⟨rfl, hb1⟩
            obtain ⟨hc1, hf1⟩ := bcell hb1
            have hz1 := hb1.size
            try simp at hz1
            have HB1 : Below w.heap.size w w1 := Below.trans (by go_grown) (hb1.mono (by first | omega | (simp; done) | (simp; omega)))
            clear hb1
            have g1_0_0 : w1.cell? ⟨w.heap.size, 0, none⟩ = some (.int .i64 b.r) := by rw [hc1 _ _ (by first | omega | (simp; done) | (simp; omega))]; simp [go_sem]
            have g1_0_1 : w1.cell? ⟨w.heap.size, 1, none⟩ = some (.int .i64 b.p) := by rw [hc1 _ _ (by first | omega | (simp; done) | (simp; omega))]; simp [go_sem]
            have g1_0_2 : w1.cell? ⟨w.heap.size, 2, none⟩ = some (.int .i64 b.s) := by rw [hc1 _ _ (by first | omega | (simp; done) | (simp; omega))]; simp [go_sem]
            have g1_0_3 : w1.cell? ⟨w.heap.size, 3, none⟩ = some (.int .i64 b.l) := by rw [hc1 _ _ (by first | omega | (simp; done) | (simp; omega))]; simp [go_sem]
            have g1_0_4 : w1.cell? ⟨w.heap.size, 4, none⟩ = some (.int .i64 b.t) := by rw [hc1 _ _ (by first | omega | (simp; done) | (simp; omega))]; simp [go_sem]
            have k1_0_0 : w1.frozen? ⟨w.heap.size, 0, none⟩ = false := by rw [hf1 _ _ (by first | omega | (simp; done) | (simp; omega))]; simp [go_sem]
            have k1_0_1 : w1.frozen? ⟨w.heap.size, 1, none⟩ = false := by rw [hf1 _ _ (by first | omega | (simp; done) | (simp; omega))]; simp [go_sem]
            have k1_0_2 : w1.frozen? ⟨w.heap.size, 2, none⟩ = false := by rw [hf1 _ _ (by first | omega | (simp; done) | (simp; omega))]; simp [go_sem]
            have k1_0_3 : w1.frozen? ⟨w.heap.size, 3, none⟩ = false := by rw [hf1 _ _ (by first | omega | (simp; done) | (simp; omega))]; simp [go_sem]
            have k1_0_4 : w1.frozen? ⟨w.heap.size, 4, none⟩ = false := by rw [hf1 _ _ (by first | omega | (simp; done) | (simp; omega))]; simp [go_sem]
            have y1_0 : w.heap.size < w1.heap.size := by omega
            have g1_1_0 : w1.cell? ⟨w.heap.size + 1, 0, none⟩ = some (.int .i64 0) := by rw [hc1 _ _ (by first | omega | (simp; done) | (simp; omega))]; simp [go_sem]
            have g1_1_1 : w1.cell? ⟨w.heap.size + 1, 1, none⟩ = some (.int .i64 0) := by rw [hc1 _ _ (by first | omega | (simp; done) | (simp; omega))]; simp [go_sem]
            have g1_1_2 : w1.cell? ⟨w.heap.size + 1, 2, none⟩ = some (.int .i64 0) := by rw [hc1 _ _ (by first | omega | (simp; done) | (simp; omega))]; simp [go_sem]
            have g1_1_3 : w1.cell? ⟨w.heap.size + 1, 3, none⟩ = some (.int .i64 0) := by rw [hc1 _ _ (by first | omega | (simp; done) | (simp; omega))]; simp [go_sem]
            have g1_1_4 : w1.cell? ⟨w.heap.size + 1, 4, none⟩ = some (.int .i64 0) := by rw [hc1 _ _ (by first | omega | (simp; done) | (simp; omega))]; simp [go_sem]
            have k1_1_0 : w1.frozen? ⟨w.heap.size + 1, 0, none⟩ = false := by rw [hf1 _ _ (by first | omega | (simp; done) | (simp; omega))]; simp [go_sem]
            have k1_1_1 : w1.frozen? ⟨w.heap.size + 1, 1, none⟩ = false := by rw [hf1 _ _ (by first | omega | (simp; done) | (simp; omega))]; simp [go_sem]
            have k1_1_2 : w1.frozen? ⟨w.heap.size + 1, 2, none⟩ = false := by rw [hf1 _ _ (by first | omega | (simp; done) | (simp; omega))]; simp [go_sem]
            have k1_1_3 : w1.frozen? ⟨w.heap.size + 1, 3, none⟩ = false := by rw [hf1 _ _ (by first | omega | (simp; done) | (simp; omega))]; simp [go_sem]
            have k1_1_4 : w1.frozen? ⟨w.heap.size + 1, 4, none⟩ = false := by rw [hf1 _ _ (by first | omega | (simp; done) | (simp; omega))]; simp [go_sem]
            have y1_1 : w.heap.size + 1 < w1.heap.size := by omega
            clear hc1 hf1 hz1
            go_wp2
            rw [HF.out]
            refine bodyPost_ret (v := .tuple #[.agg #[.int .i64 b.r, .int .i64 b.p, .int .i64 b.s, .int .i64 b.l, .int .i64 now], .int .i64 0]) (by simp [results, Try.results26, go_sem, g1_1_0, g1_1_1, g1_1_2, g1_1_3, g1_1_4, y1_1]) rfl ?_
            exact ⟨rfl, by go_grown⟩
          · have hrb : (b.r == 4611686018427387904) = false := by simp [hr]
            obtain ⟨o1, o2, o3, o4, o5, o6, o7, o8, o9, o10, o11⟩ := ok_shut b h hr
            obtain ⟨m0, m1⟩ := mul_bd o7 o8 (show 0 ≤ b.p by omega) o2
            obtain ⟨x0, x1⟩ := mul_bd (b := now - b.t) (B := 1048576) o5 o6 (by omega) (by omega)
            obtain ⟨q, hq⟩ : ∃ q, b.s * b.p = q := ⟨_, rfl⟩
            obtain ⟨x, hx⟩ : ∃ x, b.r * (now - b.t) = x := ⟨_, rfl⟩
            rw [hq] at m0 m1
            rw [hx] at x0 x1
            have m2 : q ≤ 1125899906842624 := by omega
            have x2 : x ≤ 1125899906842624 := by omega
            have ht2 : b.t ≤ now := by omega
            by_cases hc : q < b.l + x
            · have HF := Lib.hid (show badv b now = ({ b with l := q, t := now }, 0) by unfold badv; rw [if_neg (by simpa using h), if_neg HN.out, if_neg ht, if_neg hr, hq, hx, if_pos hc])
              clear h hr ht m1 x1 o10
              have hrn := bne_of hrb
              unfold Bk.v at *
              go_enter Try.func26, Try.ntmps26
              go_wp2_with (first | (go_at_call 30; go_in) | (go_at_call 29; go_in))
              refine (HV.out _).mono ?_
              rintro e w1 ⟨rfl, hb1⟩
              obtain ⟨hc1, hf1⟩ := bcell hb1
              have hz1 := hb1.size
              try simp at hz1
              have HB1 : Below w.heap.size w w1 := Below.trans (by go_grown) (hb1.mono (by first | omega | (simp; done) | (simp; omega)))
              clear hb1
              have g1_0_0 : w1.cell? ⟨w.heap.size, 0, none⟩ = some (.int .i64 b.r) := by rw [hc1 _ _ (by first | omega | (simp; done) | (simp; omega))]; simp [go_sem]
              have g1_0_1 : w1.cell? ⟨w.heap.size, 1, none⟩ = some (.int .i64 b.p) := by rw [hc1 _ _ (by first | omega | (simp; done) | (simp; omega))]; simp [go_sem]
              have g1_0_2 : w1.cell? ⟨w.heap.size, 2, none⟩ = some (.int .i64 b.s) := by rw [hc1 _ _ (by first | omega | (simp; done) | (simp; omega))]; simp [go_sem]
              have g1_0_3 : w1.cell? ⟨w.heap.size, 3, none⟩ = some (.int .i64 b.l) := by rw [hc1 _ _ (by first | omega | (simp; done) | (simp; omega))]; simp [go_sem]
              have g1_0_4 : w1.cell? ⟨w.heap.size, 4, none⟩ = some (.int .i64 b.t) := by rw [hc1 _ _ (by first | omega | (simp; done) | (simp; omega))]; simp [go_sem]
              have k1_0_0 : w1.frozen? ⟨w.heap.size, 0, none⟩ = false := by rw [hf1 _ _ (by first | omega | (simp; done) | (simp; omega))]; simp [go_sem]
              have k1_0_1 : w1.frozen? ⟨w.heap.size, 1, none⟩ = false := by rw [hf1 _ _ (by first | omega | (simp; done) | (simp; omega))]; simp [go_sem]
              have k1_0_2 : w1.frozen? ⟨w.heap.size, 2, none⟩ = false := by rw [hf1 _ _ (by first | omega | (simp; done) | (simp; omega))]; simp [go_sem]
              have k1_0_3 : w1.frozen? ⟨w.heap.size, 3, none⟩ = false := by rw [hf1 _ _ (by first | omega | (simp; done) | (simp; omega))]; simp [go_sem]
              have k1_0_4 : w1.frozen? ⟨w.heap.size, 4, none⟩ = false := by rw [hf1 _ _ (by first | omega | (simp; done) | (simp; omega))]; simp [go_sem]
              have y1_0 : w.heap.size < w1.heap.size := by omega
              have g1_1_0 : w1.cell? ⟨w.heap.size + 1, 0, none⟩ = some (.int .i64 0) := by rw [hc1 _ _ (by first | omega | (simp; done) | (simp; omega))]; simp [go_sem]
              have g1_1_1 : w1.cell? ⟨w.heap.size + 1, 1, none⟩ = some (.int .i64 0) := by rw [hc1 _ _ (by first | omega | (simp; done) | (simp; omega))]; simp [go_sem]
              have g1_1_2 : w1.cell? ⟨w.heap.size + 1, 2, none⟩ = some (.int .i64 0) := by rw [hc1 _ _ (by first | omega | (simp; done) | (simp; omega))]; simp [go_sem]
              have g1_1_3 : w1.cell? ⟨w.heap.size + 1, 3, none⟩ = some (.int .i64 0) := by rw [hc1 _ _ (by first | omega | (simp; done) | (simp; omega))]; simp [go_sem]
              have g1_1_4 : w1.cell? ⟨w.heap.size + 1, 4, none⟩ = some (.int .i64 0) := by rw [hc1 _ _ (by first | omega | (simp; done) | (simp; omega))]; simp [go_sem]
              have k1_1_0 : w1.frozen? ⟨w.heap.size + 1, 0, none⟩ = false := by rw [hf1 _ _ (by first | omega | (simp; done) | (simp; omega))]; simp [go_sem]
              have k1_1_1 : w1.frozen? ⟨w.heap.size + 1, 1, none⟩ = false := by rw [hf1 _ _ (by first | omega | (simp; done) | (simp; omega))]; simp [go_sem]
              have k1_1_2 : w1.frozen? ⟨w.heap.size + 1, 2, none⟩ = false := by rw [hf1 _ _ (by first | omega | (simp; done) | (simp; omega))]; simp [go_sem]
              have k1_1_3 : w1.frozen? ⟨w.heap.size + 1, 3, none⟩ = false := by rw [hf1 _ _ (by first | omega | (simp; done) | (simp; omega))]; simp [go_sem]
              have k1_1_4 : w1.frozen? ⟨w.heap.size + 1, 4, none⟩ = false := by rw [hf1 _ _ (by first | omega | (simp; done) | (simp; omega))]; simp [go_sem]
              have y1_1 : w.heap.size + 1 < w1.heap.size := by omega
              clear hc1 hf1 hz1
              go_wp2
              rw [HF.out]
              refine bodyPost_ret (v := .tuple #[.agg #[.int .i64 b.r, .int .i64 b.p, .int .i64 b.s, .int .i64 q, .int .i64 now], .int .i64 0]) (by simp [results, Try.results26, go_sem, g1_1_0, g1_1_1, g1_1_2, g1_1_3, g1_1_4, y1_1]) rfl ?_
              exact ⟨rfl, by go_grown⟩
            · by_cases hc2 : b.l + x < q
              · have HF := Lib.hid (show badv b now = ({ b with l := b.l + x, t := now }, 0) by unfold badv; rw [if_neg (by simpa using h), if_neg HN.out, if_neg ht, if_neg hr, hq, hx, if_neg hc])
                clear h hr ht m1 x1 o10 hc
                have hrn := bne_of hrb
                unfold Bk.v at *
                go_enter Try.func26, Try.ntmps26
                go_wp2_with (first | (go_at_call 30; go_in) | (go_at_call 29; go_in))
                refine (HV.out _).mono ?_
                rintro e w1 ⟨rfl, hb1⟩
                obtain ⟨hc1, hf1⟩ := bcell hb1
                have hz1 := hb1.size
                try simp at hz1
                have HB1 : Below w.heap.size w w1 := Below.trans (by go_grown) (hb1.mono (by first | omega | (simp; done) | (simp; omega)))
                clear hb1
                have g1_0_0 : w1.cell? ⟨w.heap.size, 0, none⟩ = some (.int .i64 b.r) := by rw [hc1 _ _ (by first | omega | (simp; done) | (simp; omega))]; simp [go_sem]
                have g1_0_1 : w1.cell? ⟨w.heap.size, 1, none⟩ = some (.int .i64 b.p) := by rw [hc1 _ _ (by first | omega | (simp; done) | (simp; omega))]; simp [go_sem]
                have g1_0_2 : w1.cell? ⟨w.heap.size, 2, none⟩ = some (.int .i64 b.s) := by rw [hc1 _ _ (by first | omega | (simp; done) | (simp; omega))]; simp [go_sem]
                have g1_0_3 : w1.cell? ⟨w.heap.size, 3, none⟩ = some (.int .i64 b.l) := by rw [hc1 _ _ (by first | omega | (simp; done) | (simp; omega))]; simp [go_sem]
                have g1_0_4 : w1.cell? ⟨w.heap.size, 4, none⟩ = some (.int .i64 b.t) := by rw [hc1 _ _ (by first | omega | (simp; done) | (simp; omega))]; simp [go_sem]
                have k1_0_0 : w1.frozen? ⟨w.heap.size, 0, none⟩ = false := by rw [hf1 _ _ (by first | omega | (simp; done) | (simp; omega))]; simp [go_sem]
                have k1_0_1 : w1.frozen? ⟨w.heap.size, 1, none⟩ = false := by rw [hf1 _ _ (by first | omega | (simp; done) | (simp; omega))]; simp [go_sem]
                have k1_0_2 : w1.frozen? ⟨w.heap.size, 2, none⟩ = false := by rw [hf1 _ _ (by first | omega | (simp; done) | (simp; omega))]; simp [go_sem]
                have k1_0_3 : w1.frozen? ⟨w.heap.size, 3, none⟩ = false := by rw [hf1 _ _ (by first | omega | (simp; done) | (simp; omega))]; simp [go_sem]
                have k1_0_4 : w1.frozen? ⟨w.heap.size, 4, none⟩ = false := by rw [hf1 _ _ (by first | omega | (simp; done) | (simp; omega))]; simp [go_sem]
                have y1_0 : w.heap.size < w1.heap.size := by omega
                have g1_1_0 : w1.cell? ⟨w.heap.size + 1, 0, none⟩ = some (.int .i64 0) := by rw [hc1 _ _ (by first | omega | (simp; done) | (simp; omega))]; simp [go_sem]
                have g1_1_1 : w1.cell? ⟨w.heap.size + 1, 1, none⟩ = some (.int .i64 0) := by rw [hc1 _ _ (by first | omega | (simp; done) | (simp; omega))]; simp [go_sem]
                have g1_1_2 : w1.cell? ⟨w.heap.size + 1, 2, none⟩ = some (.int .i64 0) := by rw [hc1 _ _ (by first | omega | (simp; done) | (simp; omega))]; simp [go_sem]
                have g1_1_3 : w1.cell? ⟨w.heap.size + 1, 3, none⟩ = some (.int .i64 0) := by rw [hc1 _ _ (by first | omega | (simp; done) | (simp; omega))]; simp [go_sem]
                have g1_1_4 : w1.cell? ⟨w.heap.size + 1, 4, none⟩ = some (.int .i64 0) := by rw [hc1 _ _ (by first | omega | (simp; done) | (simp; omega))]; simp [go_sem]
                have k1_1_0 : w1.frozen? ⟨w.heap.size + 1, 0, none⟩ = false := by rw [hf1 _ _ (by first | omega | (simp; done) | (simp; omega))]; simp [go_sem]
                have k1_1_1 : w1.frozen? ⟨w.heap.size + 1, 1, none⟩ = false := by rw [hf1 _ _ (by first | omega | (simp; done) | (simp; omega))]; simp [go_sem]
                have k1_1_2 : w1.frozen? ⟨w.heap.size + 1, 2, none⟩ = false := by rw [hf1 _ _ (by first | omega | (simp; done) | (simp; omega))]; simp [go_sem]
                have k1_1_3 : w1.frozen? ⟨w.heap.size + 1, 3, none⟩ = false := by rw [hf1 _ _ (by first | omega | (simp; done) | (simp; omega))]; simp [go_sem]
                have k1_1_4 : w1.frozen? ⟨w.heap.size + 1, 4, none⟩ = false := by rw [hf1 _ _ (by first | omega | (simp; done) | (simp; omega))]; simp [go_sem]
                have y1_1 : w.heap.size + 1 < w1.heap.size := by omega
                clear hc1 hf1 hz1
                go_wp2
                rw [HF.out]
                refine bodyPost_ret (v := .tuple #[.agg #[.int .i64 b.r, .int .i64 b.p, .int .i64 b.s, .int .i64 (b.l + x), .int .i64 now], .int .i64 0]) (by simp [results, Try.results26, go_sem, g1_1_0, g1_1_1, g1_1_2, g1_1_3, g1_1_4, y1_1]) rfl ?_
                exact ⟨rfl, by go_grown⟩
              · have HF := Lib.hid (show badv b now = ({ b with l := q, t := now }, 0) by unfold badv; rw [if_neg (by simpa using h), if_neg HN.out, if_neg ht, if_neg hr, hq, hx, if_neg hc, show b.l + x = q by omega])
                have hc3 : q ≤ b.l + x := by omega
                clear h hr ht m1 x1 o10 hc hc2
                have hrn := bne_of hrb
                unfold Bk.v at *
                go_enter Try.func26, Try.ntmps26
                go_wp2_with (first | (go_at_call 30; go_in) | (go_at_call 29; go_in))
                refine (HV.out _).mono ?_
                rintro e w1 ⟨rfl, hb1⟩
                obtain ⟨hc1, hf1⟩ := bcell hb1
                have hz1 := hb1.size
                try simp at hz1
                have HB1 : Below w.heap.size w w1 := Below.trans (by go_grown) (hb1.mono (by first | omega | (simp; done) | (simp; omega)))
                clear hb1
                have g1_0_0 : w1.cell? ⟨w.heap.size, 0, none⟩ = some (.int .i64 b.r) := by rw [hc1 _ _ (by first | omega | (simp; done) | (simp; omega))]; simp [go_sem]
                have g1_0_1 : w1.cell? ⟨w.heap.size, 1, none⟩ = some (.int .i64 b.p) := by rw [hc1 _ _ (by first | omega | (simp; done) | (simp; omega))]; simp [go_sem]
                have g1_0_2 : w1.cell? ⟨w.heap.size, 2, none⟩ = some (.int .i64 b.s) := by rw [hc1 _ _ (by first | omega | (simp; done) | (simp; omega))]; simp [go_sem]
                have g1_0_3 : w1.cell? ⟨w.heap.size, 3, none⟩ = some (.int .i64 b.l) := by rw [hc1 _ _ (by first | omega | (simp; done) | (simp; omega))]; simp [go_sem]
                have g1_0_4 : w1.cell? ⟨w.heap.size, 4, none⟩ = some (.int .i64 b.t) := by rw [hc1 _ _ (by first | omega | (simp; done) | (simp; omega))]; simp [go_sem]
                have k1_0_0 : w1.frozen? ⟨w.heap.size, 0, none⟩ = false := by rw [hf1 _ _ (by first | omega | (simp; done) | (simp; omega))]; simp [go_sem]
                have k1_0_1 : w1.frozen? ⟨w.heap.size, 1, none⟩ = false := by rw [hf1 _ _ (by first | omega | (simp; done) | (simp; omega))]; simp [go_sem]
                have k1_0_2 : w1.frozen? ⟨w.heap.size, 2, none⟩ = false := by rw [hf1 _ _ (by first | omega | (simp; done) | (simp; omega))]; simp [go_sem]
                have k1_0_3 : w1.frozen? ⟨w.heap.size, 3, none⟩ = false := by rw [hf1 _ _ (by first | omega | (simp; done) | (simp; omega))]; simp [go_sem]
                have k1_0_4 : w1.frozen? ⟨w.heap.size, 4, none⟩ = false := by rw [hf1 _ _ (by first | omega | (simp; done) | (simp; omega))]; simp [go_sem]
                have y1_0 : w.heap.size < w1.heap.size := by omega
                have g1_1_0 : w1.cell? ⟨w.heap.size + 1, 0, none⟩ = some (.int .i64 0) := by rw [hc1 _ _ (by first | omega | (simp; done) | (simp; omega))]; simp [go_sem]
                have g1_1_1 : w1.cell? ⟨w.heap.size + 1, 1, none⟩ = some (.int .i64 0) := by rw [hc1 _ _ (by first | omega | (simp; done) | (simp; omega))]; simp [go_sem]
                have g1_1_2 : w1.cell? ⟨w.heap.size + 1, 2, none⟩ = some (.int .i64 0) := by rw [hc1 _ _ (by first | omega | (simp; done) | (simp; omega))]; simp [go_sem]
                have g1_1_3 : w1.cell? ⟨w.heap.size + 1, 3, none⟩ = some (.int .i64 0) := by rw [hc1 _ _ (by first | omega | (simp; done) | (simp; omega))]; simp [go_sem]
                have g1_1_4 : w1.cell? ⟨w.heap.size + 1, 4, none⟩ = some (.int .i64 0) := by rw [hc1 _ _ (by first | omega | (simp; done) | (simp; omega))]; simp [go_sem]
                have k1_1_0 : w1.frozen? ⟨w.heap.size + 1, 0, none⟩ = false := by rw [hf1 _ _ (by first | omega | (simp; done) | (simp; omega))]; simp [go_sem]
                have k1_1_1 : w1.frozen? ⟨w.heap.size + 1, 1, none⟩ = false := by rw [hf1 _ _ (by first | omega | (simp; done) | (simp; omega))]; simp [go_sem]
                have k1_1_2 : w1.frozen? ⟨w.heap.size + 1, 2, none⟩ = false := by rw [hf1 _ _ (by first | omega | (simp; done) | (simp; omega))]; simp [go_sem]
                have k1_1_3 : w1.frozen? ⟨w.heap.size + 1, 3, none⟩ = false := by rw [hf1 _ _ (by first | omega | (simp; done) | (simp; omega))]; simp [go_sem]
                have k1_1_4 : w1.frozen? ⟨w.heap.size + 1, 4, none⟩ = false := by rw [hf1 _ _ (by first | omega | (simp; done) | (simp; omega))]; simp [go_sem]
                have y1_1 : w.heap.size + 1 < w1.heap.size := by omega
                clear hc1 hf1 hz1
                go_wp2
                rw [HF.out]
                refine bodyPost_ret (v := .tuple #[.agg #[.int .i64 b.r, .int .i64 b.p, .int .i64 b.s, .int .i64 q, .int .i64 now], .int .i64 0]) (by simp [results, Try.results26, go_sem, g1_1_0, g1_1_1, g1_1_2, g1_1_3, g1_1_4, y1_1]) rfl ?_
                exact ⟨rfl, by go_grown⟩
  · have HV := Lib.hid (fun w => rvalid_no b w h)
    have HF := Lib.hid (show badv b now = (zero, 1) by unfold badv; rw [if_pos (by simpa using h)])
    clear h
    unfold Bk.v zero at *
    go_enter Try.func26, Try.ntmps26
    go_wp2_with (first | (go_at_call 30; go_in) | (go_at_call 29; go_in))
    refine (HV.out _).mono ?_
    rintro e w1 ⟨rfl, hb1⟩
    obtain ⟨hc1, hf1⟩ := bcell hb1
    have hz1 := hb1.size
    try simp at hz1
    have HB1 : Below w.heap.size w w1 := Below.trans (by go_grown) (hb1.mono (by first | omega | (simp; done) | (simp; omega)))
    clear hb1
    have g1_0_0 : w1.cell? ⟨w.heap.size, 0, none⟩ = some (.int .i64 b.r) := by rw [hc1 _ _ (by first | omega | (simp; done) | (simp; omega))]; simp [go_sem]
    have g1_0_1 : w1.cell? ⟨w.heap.size, 1, none⟩ = some (.int .i64 b.p) := by rw [hc1 _ _ (by first | omega | (simp; done) | (simp; omega))]; simp [go_sem]
    have g1_0_2 : w1.cell? ⟨w.heap.size, 2, none⟩ = some (.int .i64 b.s) := by rw [hc1 _ _ (by first | omega | (simp; done) | (simp; omega))]; simp [go_sem]
    have g1_0_3 : w1.cell? ⟨w.heap.size, 3, none⟩ = some (.int .i64 b.l) := by rw [hc1 _ _ (by first | omega | (simp; done) | (simp; omega))]; simp [go_sem]
    have g1_0_4 : w1.cell? ⟨w.heap.size, 4, none⟩ = some (.int .i64 b.t) := by rw [hc1 _ _ (by first | omega | (simp; done) | (simp; omega))]; simp [go_sem]
    have k1_0_0 : w1.frozen? ⟨w.heap.size, 0, none⟩ = false := by rw [hf1 _ _ (by first | omega | (simp; done) | (simp; omega))]; simp [go_sem]
    have k1_0_1 : w1.frozen? ⟨w.heap.size, 1, none⟩ = false := by rw [hf1 _ _ (by first | omega | (simp; done) | (simp; omega))]; simp [go_sem]
    have k1_0_2 : w1.frozen? ⟨w.heap.size, 2, none⟩ = false := by rw [hf1 _ _ (by first | omega | (simp; done) | (simp; omega))]; simp [go_sem]
    have k1_0_3 : w1.frozen? ⟨w.heap.size, 3, none⟩ = false := by rw [hf1 _ _ (by first | omega | (simp; done) | (simp; omega))]; simp [go_sem]
    have k1_0_4 : w1.frozen? ⟨w.heap.size, 4, none⟩ = false := by rw [hf1 _ _ (by first | omega | (simp; done) | (simp; omega))]; simp [go_sem]
    have y1_0 : w.heap.size < w1.heap.size := by omega
    have g1_1_0 : w1.cell? ⟨w.heap.size + 1, 0, none⟩ = some (.int .i64 0) := by rw [hc1 _ _ (by first | omega | (simp; done) | (simp; omega))]; simp [go_sem]
    have g1_1_1 : w1.cell? ⟨w.heap.size + 1, 1, none⟩ = some (.int .i64 0) := by rw [hc1 _ _ (by first | omega | (simp; done) | (simp; omega))]; simp [go_sem]
    have g1_1_2 : w1.cell? ⟨w.heap.size + 1, 2, none⟩ = some (.int .i64 0) := by rw [hc1 _ _ (by first | omega | (simp; done) | (simp; omega))]; simp [go_sem]
    have g1_1_3 : w1.cell? ⟨w.heap.size + 1, 3, none⟩ = some (.int .i64 0) := by rw [hc1 _ _ (by first | omega | (simp; done) | (simp; omega))]; simp [go_sem]
    have g1_1_4 : w1.cell? ⟨w.heap.size + 1, 4, none⟩ = some (.int .i64 0) := by rw [hc1 _ _ (by first | omega | (simp; done) | (simp; omega))]; simp [go_sem]
    have k1_1_0 : w1.frozen? ⟨w.heap.size + 1, 0, none⟩ = false := by rw [hf1 _ _ (by first | omega | (simp; done) | (simp; omega))]; simp [go_sem]
    have k1_1_1 : w1.frozen? ⟨w.heap.size + 1, 1, none⟩ = false := by rw [hf1 _ _ (by first | omega | (simp; done) | (simp; omega))]; simp [go_sem]
    have k1_1_2 : w1.frozen? ⟨w.heap.size + 1, 2, none⟩ = false := by rw [hf1 _ _ (by first | omega | (simp; done) | (simp; omega))]; simp [go_sem]
    have k1_1_3 : w1.frozen? ⟨w.heap.size + 1, 3, none⟩ = false := by rw [hf1 _ _ (by first | omega | (simp; done) | (simp; omega))]; simp [go_sem]
    have k1_1_4 : w1.frozen? ⟨w.heap.size + 1, 4, none⟩ = false := by rw [hf1 _ _ (by first | omega | (simp; done) | (simp; omega))]; simp [go_sem]
    have y1_1 : w.heap.size + 1 < w1.heap.size := by omega
    clear hc1 hf1 hz1
    go_wp2
    rw [HF.out]
    refine bodyPost_ret (v := .tuple #[.agg #[.int .i64 0, .int .i64 0, .int .i64 0, .int .i64 0, .int .i64 0], .int .i64 1]) (by simp [results, Try.results26, go_sem, g1_1_0, g1_1_1, g1_1_2, g1_1_3, g1_1_4, y1_1]) rfl ?_
    exact ⟨rfl, by go_grown⟩

end Go.Proofs.Ytcfkmkabjalgjac
