/- Contracts of buckets: Advance. -/
import Derived.Test.YtcfkmkabjalgjacBky
namespace Go.Proofs.Ytcfkmkabjalgjac
open Go.RowKit
set_option linter.unusedVariables false
set_option linter.unusedSimpArgs false

set_option maxHeartbeats 400000 in
theorem open_any (b : Bk) (w : World) :
    Calls Try.prog 30 #[b.v] w fun e w' => e = .returned (.bool (b.r == 4611686018427387904)) ∧ Below w.heap.size w w' := by
  unfold Bk.v
  go_enter Try.func30, Try.ntmps30
  go_wp2
  go_ret
  exact ⟨rfl, by go_grown⟩

set_option maxHeartbeats 2000000 in
theorem adv_any (b : Bk) (now : Int) (w : World) :
    Calls Try.prog 19 #[b.v, .int .i64 now] w fun e w' => e = .returned (.tuple #[(badv b now).1.v, .int .i64 (badv b now).2]) ∧ Below w.heap.size w w' := by
  by_cases h : Ok b
  · have HV := Lib.hid (fun w => valid_yes b w h)
    by_cases hn : now < 0
    · have HF := Lib.hid (show badv b now = (zero, 3) by unfold badv; rw [if_neg (by simpa using h), if_pos (by omega)])
      clear h
      unfold Bk.v zero at *
      go_enter Try.func19, Try.ntmps19
      go_wp2_with (first | (go_at_call 30; go_in) | (go_at_call 29; go_in))
      refine (HV.out _).mono ?_
      rintro e w1 ⟨rfl, hb1⟩
      obtain ⟨hc1, hf1⟩ := bcell hb1
      have hz1 := hb1.size
      try simp at hz1
      have HB1 : Below w.heap.size w w1 := Below.trans (by go_grown) (hb1.mono (by first | omega | (simp; done) | (simp; omega)))
      clear hb1
      have g1_0_0 : w1.cell? ⟨w.heap.size, 0, none⟩ = some (.int .i64 b.r) := by rw [hc1 _ _ (by first | omega | (simp; done) | (simp; omega))]; simp [go_sem]
      have g1_0_1 : w1.cell? ⟨w.heap.size, 1, none⟩ = some (.int .i64 b.p) := by rw [hc1 _ _ (by first | omega | (simp; done) | (simp; omega))]; simp [go_sem]
      have g1_0_2 : w1.cell? ⟨w.heap.size, 2, none⟩ = some (.int .i64 b.s) := by rw [hc1 _ _ (by first | omega | (simp; done) | (simp; omega))]; simp [go_sem]
      have g1_0_3 : w1.cell? ⟨w.heap.size, 3, none⟩ = some (.int .i64 b.l) := by rw [hc1 _ _ (by first | omega | (simp; done) | (simp; omega))]; simp [go_sem]
      have g1_0_4 : w1.cell? ⟨w.heap.size, 4, none⟩ = some (.int .i64 b.t) := by rw [hc1 _ _ (by first | omega | (simp; done) | (simp; omega))]; simp [go_sem]
      have k1_0_0 : w1.frozen? ⟨w.heap.size, 0, none⟩ = false := by rw [hf1 _ _ (by first | omega | (simp; done) | (simp; omega))]; simp [go_sem]
      have k1_0_1 : w1.frozen? ⟨w.heap.size, 1, none⟩ = false := by rw [hf1 _ _ (by first | omega | (simp; done) | (simp; omega))]; simp [go_sem]
      have k1_0_2 : w1.frozen? ⟨w.heap.size, 2, none⟩ = false := by rw [hf1 _ _ (by first | omega | (simp; done) | (simp; omega))]; simp [go_sem]
      have k1_0_3 : w1.frozen? ⟨w.heap.size, 3, none⟩ = false := by rw [hf1 _ _ (by first | omega | (simp; done) | (simp; omega))]; simp [go_sem]
      have k1_0_4 : w1.frozen? ⟨w.heap.size, 4, none⟩ = false := by rw [hf1 _ _ (by first | omega | (simp; done) | (simp; omega))]; simp [go_sem]
      have y1_0 : w.heap.size < w1.heap.size := by omega
      have g1_1_0 : w1.cell? ⟨w.heap.size + 1, 0, none⟩ = some (.int .i64 0) := by rw [hc1 _ _ (by first | omega | (simp; done) | (simp; omega))]; simp [go_sem]
      have g1_1_1 : w1.cell? ⟨w.heap.size + 1, 1, none⟩ = some (.int .i64 0) := by rw [hc1 _ _ (by first | omega | (simp; done) | (simp; omega))]; simp [go_sem]
      have g1_1_2 : w1.cell? ⟨w.heap.size + 1, 2, none⟩ = some (.int .i64 0) := by rw [hc1 _ _ (by first | omega | (simp; done) | (simp; omega))]; simp [go_sem]
      have g1_1_3 : w1.cell? ⟨w.heap.size + 1, 3, none⟩ = some (.int .i64 0) := by rw [hc1 _ _ (by first | omega | (simp; done) | (simp; omega))]; simp [go_sem]
      have g1_1_4 : w1.cell? ⟨w.heap.size + 1, 4, none⟩ = some (.int .i64 0) := by rw [hc1 _ _ (by first | omega | (simp; done) | (simp; omega))]; simp [go_sem]
      have k1_1_0 : w1.frozen? ⟨w.heap.size + 1, 0, none⟩ = false := by rw [hf1 _ _ (by first | omega | (simp; done) | (simp; omega))]; simp [go_sem]
      have k1_1_1 : w1.frozen? ⟨w.heap.size + 1, 1, none⟩ = false := by rw [hf1 _ _ (by first | omega | (simp; done) | (simp; omega))]; simp [go_sem]
      have k1_1_2 : w1.frozen? ⟨w.heap.size + 1, 2, none⟩ = false := by rw [hf1 _ _ (by first | omega | (simp; done) | (simp; omega))]; simp [go_sem]
      have k1_1_3 : w1.frozen? ⟨w.heap.size + 1, 3, none⟩ = false := by rw [hf1 _ _ (by first | omega | (simp; done) | (simp; omega))]; simp [go_sem]
      have k1_1_4 : w1.frozen? ⟨w.heap.size + 1, 4, none⟩ = false := by rw [hf1 _ _ (by first | omega | (simp; done) | (simp; omega))]; simp [go_sem]
      have y1_1 : w.heap.size + 1 < w1.heap.size := by omega
      clear hc1 hf1 hz1
      go_wp2
      rw [HF.out]
      refine bodyPost_ret (v := .tuple #[.agg #[.int .i64 0, .int .i64 0, .int .i64 0, .int .i64 0, .int .i64 0], .int .i64 3]) (by simp [results, Try.results19, go_sem, g1_1_0, g1_1_1, g1_1_2, g1_1_3, g1_1_4, y1_1]) rfl ?_
      exact ⟨rfl, by go_grown⟩
    · by_cases hn2 : 1048576 < now
      · have HF := Lib.hid (show badv b now = (zero, 3) by unfold badv; rw [if_neg (by simpa using h), if_pos (by omega)])
        have hn3 : decide (now ≤ 1048576) = false := by simp; omega
        clear h
        unfold Bk.v zero at *
        go_enter Try.func19, Try.ntmps19
        go_wp2_with (first | (go_at_call 30; go_in) | (go_at_call 29; go_in))
        refine (HV.out _).mono ?_
        rintro e w1 ⟨rfl, hb1⟩
        obtain ⟨hc1, hf1⟩ := bcell hb1
        have hz1 := hb1.size
        try simp at hz1
        have HB1 : Below w.heap.size w w1 := Below.trans (by go_grown) (hb1.mono (by first | omega | (simp; done) | (simp; omega)))
        clear hb1
        have g1_0_0 : w1.cell? ⟨w.heap.size, 0, none⟩ = some (.int .i64 b.r) := by rw [hc1 _ _ (by first | omega | (simp; done) | (simp; omega))]; simp [go_sem]
        have g1_0_1 : w1.cell? ⟨w.heap.size, 1, none⟩ = some (.int .i64 b.p) := by rw [hc1 _ _ (by first | omega | (simp; done) | (simp; omega))]; simp [go_sem]
        have g1_0_2 : w1.cell? ⟨w.heap.size, 2, none⟩ = some (.int .i64 b.s) := by rw [hc1 _ _ (by first | omega | (simp; done) | (simp; omega))]; simp [go_sem]
        have g1_0_3 : w1.cell? ⟨w.heap.size, 3, none⟩ = some (.int .i64 b.l) := by rw [hc1 _ _ (by first | omega | (simp; done) | (simp; omega))]; simp [go_sem]
        have g1_0_4 : w1.cell? ⟨w.heap.size, 4, none⟩ = some (.int .i64 b.t) := by rw [hc1 _ _ (by first | omega | (simp; done) | (simp; omega))]; simp [go_sem]
        have k1_0_0 : w1.frozen? ⟨w.heap.size, 0, none⟩ = false := by rw [hf1 _ _ (by first | omega | (simp; done) | (simp; omega))]; simp [go_sem]
        have k1_0_1 : w1.frozen? ⟨w.heap.size, 1, none⟩ = false := by rw [hf1 _ _ (by first | omega | (simp; done) | (simp; omega))]; simp [go_sem]
        have k1_0_2 : w1.frozen? ⟨w.heap.size, 2, none⟩ = false := by rw [hf1 _ _ (by first | omega | (simp; done) | (simp; omega))]; simp [go_sem]
        have k1_0_3 : w1.frozen? ⟨w.heap.size, 3, none⟩ = false := by rw [hf1 _ _ (by first | omega | (simp; done) | (simp; omega))]; simp [go_sem]
        have k1_0_4 : w1.frozen? ⟨w.heap.size, 4, none⟩ = false := by rw [hf1 _ _ (by first | omega | (simp; done) | (simp; omega))]; simp [go_sem]
        have y1_0 : w.heap.size < w1.heap.size := by omega
        have g1_1_0 : w1.cell? ⟨w.heap.size + 1, 0, none⟩ = some (.int .i64 0) := by rw [hc1 _ _ (by first | omega | (simp; done) | (simp; omega))]; simp [go_sem]
        have g1_1_1 : w1.cell? ⟨w.heap.size + 1, 1, none⟩ = some (.int .i64 0) := by rw [hc1 _ _ (by first | omega | (simp; done) | (simp; omega))]; simp [go_sem]
        have g1_1_2 : w1.cell? ⟨w.heap.size + 1, 2, none⟩ = some (.int .i64 0) := by rw [hc1 _ _ (by first | omega | (simp; done) | (simp; omega))]; simp [go_sem]
        have g1_1_3 : w1.cell? ⟨w.heap.size + 1, 3, none⟩ = some (.int .i64 0) := by rw [hc1 _ _ (by first | omega | (simp; done) | (simp; omega))]; simp [go_sem]
        have g1_1_4 : w1.cell? ⟨w.heap.size + 1, 4, none⟩ = some (.int .i64 0) := by rw [hc1 _ _ (by first | omega | (simp; done) | (simp; omega))]; simp [go_sem]
        have k1_1_0 : w1.frozen? ⟨w.heap.size + 1, 0, none⟩ = false := by rw [hf1 _ _ (by first | omega | (simp; done) | (simp; omega))]; simp [go_sem]
        have k1_1_1 : w1.frozen? ⟨w.heap.size + 1, 1, none⟩ = false := by rw [hf1 _ _ (by first | omega | (simp; done) | (simp; omega))]; simp [go_sem]
        have k1_1_2 : w1.frozen? ⟨w.heap.size + 1, 2, none⟩ = false := by rw [hf1 _ _ (by first | omega | (simp; done) | (simp; omega))]; simp [go_sem]
        have k1_1_3 : w1.frozen? ⟨w.heap.size + 1, 3, none⟩ = false := by rw [hf1 _ _ (by first | omega | (simp; done) | (simp; omega))]; simp [go_sem]
        have k1_1_4 : w1.frozen? ⟨w.heap.size + 1, 4, none⟩ = false := by rw [hf1 _ _ (by first | omega | (simp; done) | (simp; omega))]; simp [go_sem]
        have y1_1 : w.heap.size + 1 < w1.heap.size := by omega
        clear hc1 hf1 hz1
        go_wp2
        rw [HF.out]
        refine bodyPost_ret (v := .tuple #[.agg #[.int .i64 0, .int .i64 0, .int .i64 0, .int .i64 0, .int .i64 0], .int .i64 3]) (by simp [results, Try.results19, go_sem, g1_1_0, g1_1_1, g1_1_2, g1_1_3, g1_1_4, y1_1]) rfl ?_
        exact ⟨rfl, by go_grown⟩
      · have HN := Lib.hid (show ¬ (now < 0 ∨ 1048576 < now) by omega)
        have n0 : 0 ≤ now := by omega
        have n1 : now ≤ 1048576 := by omega
        have n3 : decide (now ≤ 1048576) = true := by simp; omega
        clear hn hn2
        by_cases ht : now < b.t
        · have HF := Lib.hid (show badv b now = (zero, 23) by unfold badv; rw [if_neg (by simpa using h), if_neg HN.out, if_pos ht])
          clear h
          unfold Bk.v zero at *
          go_enter Try.func19, Try.ntmps19
          go_wp2_with (first | (go_at_call 30; go_in) | (go_at_call 29; go_in))
          refine (HV.out _).mono ?_
          rintro e w1 ⟨rfl, hb1⟩
          obtain ⟨hc1, hf1⟩ := bcell hb1
          have hz1 := hb1.size
          try simp at hz1
          have HB1 : Below w.heap.size w w1 := Below.trans (by go_grown) (hb1.mono (by first | omega | (simp; done) | (simp; omega)))
          clear hb1
          have g1_0_0 : w1.cell? ⟨w.heap.size, 0, none⟩ = some (.int .i64 b.r) := by rw [hc1 _ _ (by first | omega | (simp; done) | (simp; omega))]; simp [go_sem]
          have g1_0_1 : w1.cell? ⟨w.heap.size, 1, none⟩ = some (.int .i64 b.p) := by rw [hc1 _ _ (by first | omega | (simp; done) | (simp; omega))]; simp [go_sem]
          have g1_0_2 : w1.cell? ⟨w.heap.size, 2, none⟩ = some (.int .i64 b.s) := by rw [hc1 _ _ (by first | omega | (simp; done) | (simp; omega))]; simp [go_sem]
          have g1_0_3 : w1.cell? ⟨w.heap.size, 3, none⟩ = some (.int .i64 b.l) := by rw [hc1 _ _ (by first | omega | (simp; done) | (simp; omega))]; simp [go_sem]
          have g1_0_4 : w1.cell? ⟨w.heap.size, 4, none⟩ = some (.int .i64 b.t) := by rw [hc1 _ _ (by first | omega | (simp; done) | (simp; omega))]; simp [go_sem]
          have k1_0_0 : w1.frozen? ⟨w.heap.size, 0, none⟩ = false := by rw [hf1 _ _ (by first | omega | (simp; done) | (simp; omega))]; simp [go_sem]
          have k1_0_1 : w1.frozen? ⟨w.heap.size, 1, none⟩ = false := by rw [hf1 _ _ (by first | omega | (simp; done) | (simp; omega))]; simp [go_sem]
          have k1_0_2 : w1.frozen? ⟨w.heap.size, 2, none⟩ = false := by rw [hf1 _ _ (by first | omega | (simp; done) | (simp; omega))]; simp [go_sem]
          have k1_0_3 : w1.frozen? ⟨w.heap.size, 3, none⟩ = false := by rw [hf1 _ _ (by first | omega | (simp; done) | (simp; omega))]; simp [go_sem]
          have k1_0_4 : w1.frozen? ⟨w.heap.size, 4, none⟩ = false := by rw [hf1 _ _ (by first | omega | (simp; done) | (simp; omega))]; simp [go_sem]
          have y1_0 : w.heap.size < w1.heap.size := by omega
          have g1_1_0 : w1.cell? ⟨w.heap.size + 1, 0, none⟩ = some (.int .i64 0) := by rw [hc1 _ _ (by first | omega | (simp; done) | (simp; omega))]; simp [go_sem]
          have g1_1_1 : w1.cell? ⟨w.heap.size + 1, 1, none⟩ = some (.int .i64 0) := by rw [hc1 _ _ (by first | omega | (simp; done) | (simp; omega))]; simp [go_sem]
          have g1_1_2 : w1.cell? ⟨w.heap.size + 1, 2, none⟩ = some (.int .i64 0) := by rw [hc1 _ _ (by first | omega | (simp; done) | (simp; omega))]; simp [go_sem]
          have g1_1_3 : w1.cell? ⟨w.heap.size + 1, 3, none⟩ = some (.int .i64 0) := by rw [hc1 _ _ (by first | omega | (simp; done) | (simp; omega))]; simp [go_sem]
          have g1_1_4 : w1.cell? ⟨w.heap.size + 1, 4, none⟩ = some (.int .i64 0) := by rw [hc1 _ _ (by first | omega | (simp; done) | (simp; omega))]; simp [go_sem]
          have k1_1_0 : w1.frozen? ⟨w.heap.size + 1, 0, none⟩ = false := by rw [hf1 _ _ (by first | omega | (simp; done) | (simp; omega))]; simp [go_sem]
          have k1_1_1 : w1.frozen? ⟨w.heap.size + 1, 1, none⟩ = false := by rw [hf1 _ _ (by first | omega | (simp; done) | (simp; omega))]; simp [go_sem]
          have k1_1_2 : w1.frozen? ⟨w.heap.size + 1, 2, none⟩ = false := by rw [hf1 _ _ (by first | omega | (simp; done) | (simp; omega))]; simp [go_sem]
          have k1_1_3 : w1.frozen? ⟨w.heap.size + 1, 3, none⟩ = false := by rw [hf1 _ _ (by first | omega | (simp; done) | (simp; omega))]; simp [go_sem]
          have k1_1_4 : w1.frozen? ⟨w.heap.size + 1, 4, none⟩ = false := by rw [hf1 _ _ (by first | omega | (simp; done) | (simp; omega))]; simp [go_sem]
          have y1_1 : w.heap.size + 1 < w1.heap.size := by omega
          clear hc1 hf1 hz1
          go_wp2
          rw [HF.out]
          refine bodyPost_ret (v := .tuple #[.agg #[.int .i64 0, .int .i64 0, .int .i64 0, .int .i64 0, .int .i64 0], .int .i64 23]) (by simp [results, Try.results19, go_sem, g1_1_0, g1_1_1, g1_1_2, g1_1_3, g1_1_4, y1_1]) rfl ?_
          exact ⟨rfl, by go_grown⟩
        · by_cases hr : b.r = 4611686018427387904
          · have HF := Lib.hid (show badv b now = ({ b with t := now }, 0) by unfold badv; rw [if_neg (by simpa using h), if_neg HN.out, if_neg ht, if_pos hr])
            have hrb : (b.r == 4611686018427387904) = true := by simp [hr]
            clear h hr
            have HO := Lib.hid (fun w => open_any b w)
            rw [hrb] at HO
            clear hrb
            unfold Bk.v at *
            go_enter Try.func19, Try.ntmps19
            go_wp2_with (first | (go_at_call 30; go_in) | (go_at_call 29; go_in))
            refine (HV.out _).mono ?_
            rintro e w1 ⟨rfl, hb1⟩
            obtain ⟨hc1, hf1⟩ := bcell hb1
            have hz1 := hb1.size
            try simp at hz1
            have HB1 : Below w.heap.size w w1 := Below.trans (by go_grown) (hb1.mono (by first | omega | (simp; done) | (simp; omega)))
            clear hb1
            have g1_0_0 : w1.cell? ⟨w.heap.size, 0, none⟩ = some (.int .i64 b.r) := by rw [hc1 _ _ (by first | omega | (simp; done) | (simp; omega))]; simp [go_sem]
            have g1_0_1 : w1.cell? ⟨w.heap.size, 1, none⟩ = some (.int .i64 b.p) := by rw [hc1 _ _ (by first | omega | (simp; done) | (simp; omega))]; simp [go_sem]
            have g1_0_2 : w1.cell? ⟨w.heap.size, 2, none⟩ = some (.int .i64 b.s) := by rw [hc1 _ _ (by first | omega | (simp; done) | (simp; omega))]; simp [go_sem]
            have g1_0_3 : w1.cell? ⟨w.heap.size, 3, none⟩ = some (.int .i64 b.l) := by rw [hc1 _ _ (by first | omega | (simp; done) | (simp; omega))]; simp [go_sem]
            have g1_0_4 : w1.cell? ⟨w.heap.size, 4, none⟩ = some (.int .i64 b.t) := by rw [hc1 _ _ (by first | omega | (simp; done) | (simp; omega))]; simp [go_sem]
            have k1_0_0 : w1.frozen? ⟨w.heap.size, 0, none⟩ = false := by rw [hf1 _ _ (by first | omega | (simp; done) | (simp; omega))]; simp [go_sem]
            have k1_0_1 : w1.frozen? ⟨w.heap.size, 1, none⟩ = false := by rw [hf1 _ _ (by first | omega | (simp; done) | (simp; omega))]; simp [go_sem]
            have k1_0_2 : w1.frozen? ⟨w.heap.size, 2, none⟩ = false := by rw [hf1 _ _ (by first | omega | (simp; done) | (simp; omega))]; simp [go_sem]
            have k1_0_3 : w1.frozen? ⟨w.heap.size, 3, none⟩ = false := by rw [hf1 _ _ (by first | omega | (simp; done) | (simp; omega))]; simp [go_sem]
            have k1_0_4 : w1.frozen? ⟨w.heap.size, 4, none⟩ = false := by rw [hf1 _ _ (by first | omega | (simp; done) | (simp; omega))]; simp [go_sem]
            have y1_0 : w.heap.size < w1.heap.size := by omega
            have g1_1_0 : w1.cell? ⟨w.heap.size + 1, 0, none⟩ = some (.int .i64 0) := by rw [hc1 _ _ (by first | omega | (simp; done) | (simp; omega))]; simp [go_sem]
            have g1_1_1 : w1.cell? ⟨w.heap.size + 1, 1, none⟩ = some (.int .i64 0) := by rw [hc1 _ _ (by first | omega | (simp; done) | (simp; omega))]; simp [go_sem]
            have g1_1_2 : w1.cell? ⟨w.heap.size + 1, 2, none⟩ = some (.int .i64 0) := by rw [hc1 _ _ (by first | omega | (simp; done) | (simp; omega))]; simp [go_sem]
            have g1_1_3 : w1.cell? ⟨w.heap.size + 1, 3, none⟩ = some (.int .i64 0) := by rw [hc1 _ _ (by first | omega | (simp; done) | (simp; omega))]; simp [go_sem]
            have g1_1_4 : w1.cell? ⟨w.heap.size + 1, 4, none⟩ = some (.int .i64 0) := by rw [hc1 _ _ (by first | omega | (simp; done) | (simp; omega))]; simp [go_sem]
            have k1_1_0 : w1.frozen? ⟨w.heap.size + 1, 0, none⟩ = false := by rw [hf1 _ _ (by first | omega | (simp; done) | (simp; omega))]; simp [go_sem]
            have k1_1_1 : w1.frozen? ⟨w.heap.size + 1, 1, none⟩ = false := by rw [hf1 _ _ (by first | omega | (simp; done) | (simp; omega))]; simp [go_sem]
            have k1_1_2 : w1.frozen? ⟨w.heap.size + 1, 2, none⟩ = false := by rw [hf1 _ _ (by first | omega | (simp; done) | (simp; omega))]; simp [go_sem]
            have k1_1_3 : w1.frozen? ⟨w.heap.size + 1, 3, none⟩ = false := by rw [hf1 _ _ (by first | omega | (simp; done) | (simp; omega))]; simp [go_sem]
            have k1_1_4 : w1.frozen? ⟨w.heap.size + 1, 4, none⟩ = false := by rw [hf1 _ _ (by first | omega | (simp; done) | (simp; omega))]; simp [go_sem]
            have y1_1 : w.heap.size + 1 < w1.heap.size := by omega
            clear hc1 hf1 hz1
            go_wp2_with (go_at_call 29; go_in)
            refine (HO.out _).mono ?_
            rintro e w2 ⟨rfl, hb2⟩
            obtain ⟨hc2, hf2⟩ := bcell hb2
            have hz2 := hb2.size
            try simp at hz2
            have HB2 : Below w.heap.size w w2 := Below.trans (by go_grown) (hb2.mono (by first | omega | (simp; done) | (simp; omega)))
            clear hb2
            have g2_0_0 : w2.cell? ⟨w.heap.size, 0, none⟩ = some (.int .i64 b.r) := by rw [hc2 _ _ (by first | omega | (simp; done) | (simp; omega))]; simp [go_sem, g1_0_0, g1_1_0]
            have g2_0_1 : w2.cell? ⟨w.heap.size, 1, none⟩ = some (.int .i64 b.p) := by rw [hc2 _ _ (by first | omega | (simp; done) | (simp; omega))]; simp [go_sem, g1_0_1, g1_1_1]
            have g2_0_2 : w2.cell? ⟨w.heap.size, 2, none⟩ = some (.int .i64 b.s) := by rw [hc2 _ _ (by first | omega | (simp; done) | (simp; omega))]; simp [go_sem, g1_0_2, g1_1_2]
            have g2_0_3 : w2.cell? ⟨w.heap.size, 3, none⟩ = some (.int .i64 b.l) := by rw [hc2 _ _ (by first | omega | (simp; done) | (simp; omega))]; simp [go_sem, g1_0_3, g1_1_3]
            have g2_0_4 : w2.cell? ⟨w.heap.size, 4, none⟩ = some (.int .i64 b.t) := by rw [hc2 _ _ (by first | omega | (simp; done) | (simp; omega))]; simp [go_sem, g1_0_4, g1_1_4]
            have k2_0_0 : w2.frozen? ⟨w.heap.size, 0, none⟩ = false := by rw [hf2 _ _ (by first | omega | (simp; done) | (simp; omega))]; simp [go_sem, k1_0_0, k1_1_0]
            have k2_0_1 : w2.frozen? ⟨w.heap.size, 1, none⟩ = false := by rw [hf2 _ _ (by first | omega | (simp; done) | (simp; omega))]; simp [go_sem, k1_0_1, k1_1_1]
            have k2_0_2 : w2.frozen? ⟨w.heap.size, 2, none⟩ = false := by rw [hf2 _ _ (by first | omega | (simp; done) | (simp; omega))]; simp [go_sem, k1_0_2, k1_1_2]
            have k2_0_3 : w2.frozen? ⟨w.heap.size, 3, none⟩ = false := by rw [hf2 _ _ (by first | omega | (simp; done) | (simp; omega))]; simp [go_sem, k1_0_3, k1_1_3]
            have k2_0_4 : w2.frozen? ⟨w.heap.size, 4, none⟩ = false := by rw [hf2 _ _ (by first | omega | (simp; done) | (simp; omega))]; simp [go_sem, k1_0_4, k1_1_4]
            have y2_0 : w.heap.size < w2.heap.size := by omega
            have g2_1_0 : w2.cell? ⟨w.heap.size + 1, 0, none⟩ = some (.int .i64 0) := by rw [hc2 _ _ (by first | omega | (simp; done) | (simp; omega))]; simp [go_sem, g1_0_0, g1_1_0]
            have g2_1_1 : w2.cell? ⟨w.heap.size + 1, 1, none⟩ = some (.int .i64 0) := by rw [hc2 _ _ (by first | omega | (simp; done) | (simp; omega))]; simp [go_sem, g1_0_1, g1_1_1]
            have g2_1_2 : w2.cell? ⟨w.heap.size + 1, 2, none⟩ = some (.int .i64 0) := by rw [hc2 _ _ (by first | omega | (simp; done) | (simp; omega))]; simp [go_sem, g1_0_2, g1_1_2]
            have g2_1_3 : w2.cell? ⟨w.heap.size + 1, 3, none⟩ = some (.int .i64 0) := by rw [hc2 _ _ (by first | omega | (simp; done) | (simp; omega))]; simp [go_sem, g1_0_3, g1_1_3]
            have g2_1_4 : w2.cell? ⟨w.heap.size + 1, 4, none⟩ = some (.int .i64 0) := by rw [hc2 _ _ (by first | omega | (simp; done) | (simp; omega))]; simp [go_sem, g1_0_4, g1_1_4]
            have k2_1_0 : w2.frozen? ⟨w.heap.size + 1, 0, none⟩ = false := by rw [hf2 _ _ (by first | omega | (simp; done) | (simp; omega))]; simp [go_sem, k1_0_0, k1_1_0]
            have k2_1_1 : w2.frozen? ⟨w.heap.size + 1, 1, none⟩ = false := by rw [hf2 _ _ (by first | omega | (simp; done) | (simp; omega))]; simp [go_sem, k1_0_1, k1_1_1]
            have k2_1_2 : w2.frozen? ⟨w.heap.size + 1, 2, none⟩ = false := by rw [hf2 _ _ (by first | omega | (simp; done) | (simp; omega))]; simp [go_sem, k1_0_2, k1_1_2]
            have k2_1_3 : w2.frozen? ⟨w.heap.size + 1, 3, none⟩ = false := by rw [hf2 _ _ (by first | omega | (simp; done) | (simp; omega))]; simp [go_sem, k1_0_3, k1_1_3]
            have k2_1_4 : w2.frozen? ⟨w.heap.size + 1, 4, none⟩ = false := by rw [hf2 _ _ (by first | omega | (simp; done) | (simp; omega))]; simp [go_sem, k1_0_4, k1_1_4]
            have y2_1 : w.heap.size + 1 < w2.heap.size := by omega
            clear hc2 hf2 hz2
            go_wp2
            rw [HF.out]
            refine bodyPost_ret (v := .tuple #[.agg #[.int .i64 b.r, .int .i64 b.p, .int .i64 b.s, .int .i64 b.l, .int .i64 now], .int .i64 0]) (by simp [results, Try.results19, go_sem, g2_1_0, g2_1_1, g2_1_2, g2_1_3, g2_1_4, y2_1]) rfl ?_
            exact ⟨rfl, by go_grown⟩
          · have hrb : (b.r == 4611686018427387904) = false := by simp [hr]
            obtain ⟨o1, o2, o3, o4, o5, o6, o7, o8, o9, o10, o11⟩ := ok_shut b h hr
            obtain ⟨m0, m1⟩ := mul_bd o7 o8 (show 0 ≤ b.p by omega) o2
            obtain ⟨x0, x1⟩ := mul_bd (b := now - b.t) (B := 1048576) o5 o6 (by omega) (by omega)
            obtain ⟨q, hq⟩ : ∃ q, b.s * b.p = q := ⟨_, rfl⟩
            obtain ⟨x, hx⟩ : ∃ x, b.r * (now - b.t) = x := ⟨_, rfl⟩
            rw [hq] at m0 m1
            rw [hx] at x0 x1
            have m2 : q ≤ 1125899906842624 := by omega
            have x2 : x ≤ 1125899906842624 := by omega
            have ht2 : b.t ≤ now := by omega
            by_cases hc : q < b.l + x
            · have HF := Lib.hid (show badv b now = ({ b with l := q, t := now }, 0) by unfold badv; rw [if_neg (by simpa using h), if_neg HN.out, if_neg ht, if_neg hr, hq, hx, if_pos hc])
              clear h hr ht m1 x1 o10
              have HO := Lib.hid (fun w => open_any b w)
              rw [hrb] at HO
              clear hrb
              unfold Bk.v at *
              go_enter Try.func19, Try.ntmps19
              go_wp2_with (first | (go_at_call 30; go_in) | (go_at_call 29; go_in))
              refine (HV.out _).mono ?_
              rintro e w1 ⟨rfl, hb1⟩
              obtain ⟨hc1, hf1⟩ := bcell hb1
              have hz1 := hb1.size
              try simp at hz1
              have HB1 : Below w.heap.size w w1 := Below.trans (by go_grown) (hb1.mono (by first | omega | (simp; done) | (simp; omega)))
              clear hb1
              have g1_0_0 : w1.cell? ⟨w.heap.size, 0, none⟩ = some (.int .i64 b.r) := by rw [hc1 _ _ (by first | omega | (simp; done) | (simp; omega))]; simp [go_sem]
              have g1_0_1 : w1.cell? ⟨w.heap.size, 1, none⟩ = some (.int .i64 b.p) := by rw [hc1 _ _ (by first | omega | (simp; done) | (simp; omega))]; simp [go_sem]
              have g1_0_2 : w1.cell? ⟨w.heap.size, 2, none⟩ = some (.int .i64 b.s) := by rw [hc1 _ _ (by first | omega | (simp; done) | (simp; omega))]; simp [go_sem]
              have g1_0_3 : w1.cell? ⟨w.heap.size, 3, none⟩ = some (.int .i64 b.l) := by rw [hc1 _ _ (by first | omega | (simp; done) | (simp; omega))]; simp [go_sem]
              have g1_0_4 : w1.cell? ⟨w.heap.size, 4, none⟩ = some (.int .i64 b.t) := by rw [hc1 _ _ (by first | omega | (simp; done) | (simp; omega))]; simp [go_sem]
              have k1_0_0 : w1.frozen? ⟨w.heap.size, 0, none⟩ = false := by rw [hf1 _ _ (by first | omega | (simp; done) | (simp; omega))]; simp [go_sem]
              have k1_0_1 : w1.frozen? ⟨w.heap.size, 1, none⟩ = false := by rw [hf1 _ _ (by first | omega | (simp; done) | (simp; omega))]; simp [go_sem]
              have k1_0_2 : w1.frozen? ⟨w.heap.size, 2, none⟩ = false := by rw [hf1 _ _ (by first | omega | (simp; done) | (simp; omega))]; simp [go_sem]
              have k1_0_3 : w1.frozen? ⟨w.heap.size, 3, none⟩ = false := by rw [hf1 _ _ (by first | omega | (simp; done) | (simp; omega))]; simp [go_sem]
              have k1_0_4 : w1.frozen? ⟨w.heap.size, 4, none⟩ = false := by rw [hf1 _ _ (by first | omega | (simp; done) | (simp; omega))]; simp [go_sem]
              have y1_0 : w.heap.size < w1.heap.size := by omega
              have g1_1_0 : w1.cell? ⟨w.heap.size + 1, 0, none⟩ = some (.int .i64 0) := by rw [hc1 _ _ (by first | omega | (simp; done) | (simp; omega))]; simp [go_sem]
              have g1_1_1 : w1.cell? ⟨w.heap.size + 1, 1, none⟩ = some (.int .i64 0) := by rw [hc1 _ _ (by first | omega | (simp; done) | (simp; omega))]; simp [go_sem]
              have g1_1_2 : w1.cell? ⟨w.heap.size + 1, 2, none⟩ = some (.int .i64 0) := by rw [hc1 _ _ (by first | omega | (simp; done) | (simp; omega))]; simp [go_sem]
              have g1_1_3 : w1.cell? ⟨w.heap.size + 1, 3, none⟩ = some (.int .i64 0) := by rw [hc1 _ _ (by first | omega | (simp; done) | (simp; omega))]; simp [go_sem]
              have g1_1_4 : w1.cell? ⟨w.heap.size + 1, 4, none⟩ = some (.int .i64 0) := by rw [hc1 _ _ (by first | omega | (simp; done) | (simp; omega))]; simp [go_sem]
              have k1_1_0 : w1.frozen? ⟨w.heap.size + 1, 0, none⟩ = false := by rw [hf1 _ _ (by first | omega | (simp; done) | (simp; omega))]; simp [go_sem]
              have k1_1_1 : w1.frozen? ⟨w.heap.size + 1, 1, none⟩ = false := by rw [hf1 _ _ (by first | omega | (simp; done) | (simp; omega))]; simp [go_sem]
              have k1_1_2 : w1.frozen? ⟨w.heap.size + 1, 2, none⟩ = false := by rw [hf1 _ _ (by first | omega | (simp; done) | (simp; omega))]; simp [go_sem]
              have k1_1_3 : w1.frozen? ⟨w.heap.size + 1, 3, none⟩ = false := by rw [hf1 _ _ (by first | omega | (simp; done) | (simp; omega))]; simp [go_sem]
              have k1_1_4 : w1.frozen? ⟨w.heap.size + 1, 4, none⟩ = false := by rw [hf1 _ _ (by first | omega | (simp; done) | (simp; omega))]; simp [go_sem]
              have y1_1 : w.heap.size + 1 < w1.heap.size := by omega
              clear hc1 hf1 hz1
              go_wp2_with (go_at_call 29; go_in)
              refine (HO.out _).mono ?_
              rintro e w2 ⟨rfl, hb2⟩
              obtain ⟨hc2, hf2⟩ := bcell hb2
              have hz2 := hb2.size
              try simp at hz2
              have HB2 : Below w.heap.size w w2 := Below.trans (by go_grown) (hb2.mono (by first | omega | (simp; done) | (simp; omega)))
              clear hb2
              have g2_0_0 : w2.cell? ⟨w.heap.size, 0, none⟩ = some (.int .i64 b.r) := by rw [hc2 _ _ (by first | omega | (simp; done) | (simp; omega))]; simp [go_sem, g1_0_0, g1_1_0]
              have g2_0_1 : w2.cell? ⟨w.heap.size, 1, none⟩ = some (.int .i64 b.p) := by rw [hc2 _ _ (by first | omega | (simp; done) | (simp; omega))]; simp [go_sem, g1_0_1, g1_1_1]
              have g2_0_2 : w2.cell? ⟨w.heap.size, 2, none⟩ = some (.int .i64 b.s) := by rw [hc2 _ _ (by first | omega | (simp; done) | (simp; omega))]; simp [go_sem, g1_0_2, g1_1_2]
              have g2_0_3 : w2.cell? ⟨w.heap.size, 3, none⟩ = some (.int .i64 b.l) := by rw [hc2 _ _ (by first | omega | (simp; done) | (simp; omega))]; simp [go_sem, g1_0_3, g1_1_3]
              have g2_0_4 : w2.cell? ⟨w.heap.size, 4, none⟩ = some (.int .i64 b.t) := by rw [hc2 _ _ (by first | omega | (simp; done) | (simp; omega))]; simp [go_sem, g1_0_4, g1_1_4]
              have k2_0_0 : w2.frozen? ⟨w.heap.size, 0, none⟩ = false := by rw [hf2 _ _ (by first | omega | (simp; done) | (simp; omega))]; simp [go_sem, k1_0_0, k1_1_0]
              have k2_0_1 : w2.frozen? ⟨w.heap.size, 1, none⟩ = false := by rw [hf2 _ _ (by first | omega | (simp; done) | (simp; omega))]; simp [go_sem, k1_0_1, k1_1_1]
              have k2_0_2 : w2.frozen? ⟨w.heap.size, 2, none⟩ = false := by rw [hf2 _ _ (by first | omega | (simp; done) | (simp; omega))]; simp [go_sem, k1_0_2, k1_1_2]
              have k2_0_3 : w2.frozen? ⟨w.heap.size, 3, none⟩ = false := by rw [hf2 _ _ (by first | omega | (simp; done) | (simp; omega))]; simp [go_sem, k1_0_3, k1_1_3]
              have k2_0_4 : w2.frozen? ⟨w.heap.size, 4, none⟩ = false := by rw [hf2 _ _ (by first | omega | (simp; done) | (simp; omega))]; simp [go_sem, k1_0_4, k1_1_4]
              have y2_0 : w.heap.size < w2.heap.size := by omega
              have g2_1_0 : w2.cell? ⟨w.heap.size + 1, 0, none⟩ = some (.int .i64 0) := by rw [hc2 _ _ (by first | omega | (simp; done) | (simp; omega))]; simp [go_sem, g1_0_0, g1_1_0]
              have g2_1_1 : w2.cell? ⟨w.heap.size + 1, 1, none⟩ = some (.int .i64 0) := by rw [hc2 _ _ (by first | omega | (simp; done) | (simp; omega))]; simp [go_sem, g1_0_1, g1_1_1]
              have g2_1_2 : w2.cell? ⟨w.heap.size + 1, 2, none⟩ = some (.int .i64 0) := by rw [hc2 _ _ (by first | omega | (simp; done) | (simp; omega))]; simp [go_sem, g1_0_2, g1_1_2]
              have g2_1_3 : w2.cell? ⟨w.heap.size + 1, 3, none⟩ = some (.int .i64 0) := by rw [hc2 _ _ (by first | omega | (simp; done) | (simp; omega))]; simp [go_sem, g1_0_3, g1_1_3]
              have g2_1_4 : w2.cell? ⟨w.heap.size + 1, 4, none⟩ = some (.int .i64 0) := by rw [hc2 _ _ (by first | omega | (simp; done) | (simp; omega))]; simp [go_sem, g1_0_4, g1_1_4]
              have k2_1_0 : w2.frozen? ⟨w.heap.size + 1, 0, none⟩ = false := by rw [hf2 _ _ (by first | omega | (simp; done) | (simp; omega))]; simp [go_sem, k1_0_0, k1_1_0]
              have k2_1_1 : w2.frozen? ⟨w.heap.size + 1, 1, none⟩ = false := by rw [hf2 _ _ (by first | omega | (simp; done) | (simp; omega))]; simp [go_sem, k1_0_1, k1_1_1]
              have k2_1_2 : w2.frozen? ⟨w.heap.size + 1, 2, none⟩ = false := by rw [hf2 _ _ (by first | omega | (simp; done) | (simp; omega))]; simp [go_sem, k1_0_2, k1_1_2]
              have k2_1_3 : w2.frozen? ⟨w.heap.size + 1, 3, none⟩ = false := by rw [hf2 _ _ (by first | omega | (simp; done) | (simp; omega))]; simp [go_sem, k1_0_3, k1_1_3]
              have k2_1_4 : w2.frozen? ⟨w.heap.size + 1, 4, none⟩ = false := by rw [hf2 _ _ (by first | omega | (simp; done) | (simp; omega))]; simp [go_sem, k1_0_4, k1_1_4]
              have y2_1 : w.heap.size + 1 < w2.heap.size := by omega
              clear hc2 hf2 hz2
              go_wp2
              rw [HF.out]
              refine bodyPost_ret (v := .tuple #[.agg #[.int .i64 b.r, .int .i64 b.p, .int .i64 b.s, .int .i64 q, .int .i64 now], .int .i64 0]) (by simp [results, Try.results19, go_sem, g2_1_0, g2_1_1, g2_1_2, g2_1_3, g2_1_4, y2_1]) rfl ?_
              exact ⟨rfl, by go_grown⟩
            · have HF := Lib.hid (show badv b now = ({ b with l := b.l + x, t := now }, 0) by unfold badv; rw [if_neg (by simpa using h), if_neg HN.out, if_neg ht, if_neg hr, hq, hx, if_neg hc])
              clear h hr ht m1 x1 o10
              have HO := Lib.hid (fun w => open_any b w)
              rw [hrb] at HO
              clear hrb
              unfold Bk.v at *
              go_enter Try.func19, Try.ntmps19
              go_wp2_with (first | (go_at_call 30; go_in) | (go_at_call 29; go_in))
              refine (HV.out _).mono ?_
              rintro e w1 ⟨rfl, hb1⟩
              obtain ⟨hc1, hf1⟩ := bcell hb1
              have hz1 := hb1.size
              try simp at hz1
              have HB1 : Below w.heap.size w w1 := Below.trans (by go_grown) (hb1.mono (by first | omega | (simp; done) | (simp; omega)))
              clear hb1
              have g1_0_0 : w1.cell? ⟨w.heap.size, 0, none⟩ = some (.int .i64 b.r) := by rw [hc1 _ _ (by first | omega | (simp; done) | (simp; omega))]; simp [go_sem]
              have g1_0_1 : w1.cell? ⟨w.heap.size, 1, none⟩ = some (.int .i64 b.p) := by rw [hc1 _ _ (by first | omega | (simp; done) | (simp; omega))]; simp [go_sem]
              have g1_0_2 : w1.cell? ⟨w.heap.size, 2, none⟩ = some (.int .i64 b.s) := by rw [hc1 _ _ (by first | omega | (simp; done) | (simp; omega))]; simp [go_sem]
              have g1_0_3 : w1.cell? ⟨w.heap.size, 3, none⟩ = some (.int .i64 b.l) := by rw [hc1 _ _ (by first | omega | (simp; done) | (simp; omega))]; simp [go_sem]
              have g1_0_4 : w1.cell? ⟨w.heap.size, 4, none⟩ = some (.int .i64 b.t) := by rw [hc1 _ _ (by first | omega | (simp; done) | (simp; omega))]; simp [go_sem]
              have k1_0_0 : w1.frozen? ⟨w.heap.size, 0, none⟩ = false := by rw [hf1 _ _ (by first | omega | (simp; done) | (simp; omega))]; simp [go_sem]
              have k1_0_1 : w1.frozen? ⟨w.heap.size, 1, none⟩ = false := by rw [hf1 _ _ (by first | omega | (simp; done) | (simp; omega))]; simp [go_sem]
              have k1_0_2 : w1.frozen? ⟨w.heap.size, 2, none⟩ = false := by rw [hf1 _ _ (by first | omega | (simp; done) | (simp; omega))]; simp [go_sem]
              have k1_0_3 : w1.frozen? ⟨w.heap.size, 3, none⟩ = false := by rw [hf1 _ _ (by first | omega | (simp; done) | (simp; omega))]; simp [go_sem]
              have k1_0_4 : w1.frozen? ⟨w.heap.size, 4, none⟩ = false := by rw [hf1 _ _ (by first | omega | (simp; done) | (simp; omega))]; simp [go_sem]
              have y1_0 : w.heap.size < w1.heap.size := by omega
              have g1_1_0 : w1.cell? ⟨w.heap.size + 1, 0, none⟩ = some (.int .i64 0) := by rw [hc1 _ _ (by first | omega | (simp; done) | (simp; omega))]; simp [go_sem]
              have g1_1_1 : w1.cell? ⟨w.heap.size + 1, 1, none⟩ = some (.int .i64 0) := by rw [hc1 _ _ (by first | omega | (simp; done) | (simp; omega))]; simp [go_sem]
              have g1_1_2 : w1.cell? ⟨w.heap.size + 1, 2, none⟩ = some (.int .i64 0) := by rw [hc1 _ _ (by first | omega | (simp; done) | (simp; omega))]; simp [go_sem]
              have g1_1_3 : w1.cell? ⟨w.heap.size + 1, 3, none⟩ = some (.int .i64 0) := by rw [hc1 _ _ (by first | omega | (simp; done) | (simp; omega))]; simp [go_sem]
              have g1_1_4 : w1.cell? ⟨w.heap.size + 1, 4, none⟩ = some (.int .i64 0) := by rw [hc1 _ _ (by first | omega | (simp; done) | (simp; omega))]; simp [go_sem]
              have k1_1_0 : w1.frozen? ⟨w.heap.size + 1, 0, none⟩ = false := by rw [hf1 _ _ (by first | omega | (simp; done) | (simp; omega))]; simp [go_sem]
              have k1_1_1 : w1.frozen? ⟨w.heap.size + 1, 1, none⟩ = false := by rw [hf1 _ _ (by first | omega | (simp; done) | (simp; omega))]; simp [go_sem]
              have k1_1_2 : w1.frozen? ⟨w.heap.size + 1, 2, none⟩ = false := by rw [hf1 _ _ (by first | omega | (simp; done) | (simp; omega))]; simp [go_sem]
              have k1_1_3 : w1.frozen? ⟨w.heap.size + 1, 3, none⟩ = false := by rw [hf1 _ _ (by first | omega | (simp; done) | (simp; omega))]; simp [go_sem]
              have k1_1_4 : w1.frozen? ⟨w.heap.size + 1, 4, none⟩ = false := by rw [hf1 _ _ (by first | omega | (simp; done) | (simp; omega))]; simp [go_sem]
              have y1_1 : w.heap.size + 1 < w1.heap.size := by omega
              clear hc1 hf1 hz1
              go_wp2_with (go_at_call 29; go_in)
              refine (HO.out _).mono ?_
              rintro e w2 ⟨rfl, hb2⟩
              obtain ⟨hc2, hf2⟩ := bcell hb2
              have hz2 := hb2.size
              try simp at hz2
              have HB2 : Below w.heap.size w w2 := Below.trans (by go_grown) (hb2.mono (by first | omega | (simp; done) | (simp; omega)))
              clear hb2
              have g2_0_0 : w2.cell? ⟨w.heap.size, 0, none⟩ = some (.int .i64 b.r) := by rw [hc2 _ _ (by first | omega | (simp; done) | (simp; omega))]; simp [go_sem, g1_0_0, g1_1_0]
              have g2_0_1 : w2.cell? ⟨w.heap.size, 1, none⟩ = some (.int .i64 b.p) := by rw [hc2 _ _ (by first | omega | (simp; done) | (simp; omega))]; simp [go_sem, g1_0_1, g1_1_1]
              have g2_0_2 : w2.cell? ⟨w.heap.size, 2, none⟩ = some (.int .i64 b.s) := by rw [hc2 _ _ (by first | omega | (simp; done) | (simp; omega))]; simp [go_sem, g1_0_2, g1_1_2]
              have g2_0_3 : w2.cell? ⟨w.heap.size, 3, none⟩ = some (.int .i64 b.l) := by rw [hc2 _ _ (by first | omega | (simp; done) | (simp; omega))]; simp [go_sem, g1_0_3, g1_1_3]
              have g2_0_4 : w2.cell? ⟨w.heap.size, 4, none⟩ = some (.int .i64 b.t) := by rw [hc2 _ _ (by first | omega | (simp; done) | (simp; omega))]; simp [go_sem, g1_0_4, g1_1_4]
              have k2_0_0 : w2.frozen? ⟨w.heap.size, 0, none⟩ = false := by rw [hf2 _ _ (by first | omega | (simp; done) | (simp; omega))]; simp [go_sem, k1_0_0, k1_1_0]
              have k2_0_1 : w2.frozen? ⟨w.heap.size, 1, none⟩ = false := by rw [hf2 _ _ (by first | omega | (simp; done) | (simp; omega))]; simp [go_sem, k1_0_1, k1_1_1]
              have k2_0_2 : w2.frozen? ⟨w.heap.size, 2, none⟩ = false := by rw [hf2 _ _ (by first | omega | (simp; done) | (simp; omega))]; simp [go_sem, k1_0_2, k1_1_2]
              have k2_0_3 : w2.frozen? ⟨w.heap.size, 3, none⟩ = false := by rw [hf2 _ _ (by first | omega | (simp; done) | (simp; omega))]; simp [go_sem, k1_0_3, k1_1_3]
              have k2_0_4 : w2.frozen? ⟨w.heap.size, 4, none⟩ = false := by rw [hf2 _ _ (by first | omega | (simp; done) | (simp; omega))]; simp [go_sem, k1_0_4, k1_1_4]
              have y2_0 : w.heap.size < w2.heap.size := by omega
              have g2_1_0 : w2.cell? ⟨w.heap.size + 1, 0, none⟩ = some (.int .i64 0) := by rw [hc2 _ _ (by first | omega | (simp; done) | (simp; omega))]; simp [go_sem, g1_0_0, g1_1_0]
              have g2_1_1 : w2.cell? ⟨w.heap.size + 1, 1, none⟩ = some (.int .i64 0) := by rw [hc2 _ _ (by first | omega | (simp; done) | (simp; omega))]; simp [go_sem, g1_0_1, g1_1_1]
              have g2_1_2 : w2.cell? ⟨w.heap.size + 1, 2, none⟩ = some (.int .i64 0) := by rw [hc2 _ _ (by first | omega | (simp; done) | (simp; omega))]; simp [go_sem, g1_0_2, g1_1_2]
              have g2_1_3 : w2.cell? ⟨w.heap.size + 1, 3, none⟩ = some (.int .i64 0) := by rw [hc2 _ _ (by first | omega | (simp; done) | (simp; omega))]; simp [go_sem, g1_0_3, g1_1_3]
              have g2_1_4 : w2.cell? ⟨w.heap.size + 1, 4, none⟩ = some (.int .i64 0) := by rw [hc2 _ _ (by first | omega | (simp; done) | (simp; omega))]; simp [go_sem, g1_0_4, g1_1_4]
              have k2_1_0 : w2.frozen? ⟨w.heap.size + 1, 0, none⟩ = false := by rw [hf2 _ _ (by first | omega | (simp; done) | (simp; omega))]; simp [go_sem, k1_0_0, k1_1_0]
              have k2_1_1 : w2.frozen? ⟨w.heap.size + 1, 1, none⟩ = false := by rw [hf2 _ _ (by first | omega | (simp; done) | (simp; omega))]; simp [go_sem, k1_0_1, k1_1_1]
              have k2_1_2 : w2.frozen? ⟨w.heap.size + 1, 2, none⟩ = false := by rw [hf2 _ _ (by first | omega | (simp; done) | (simp; omega))]; simp [go_sem, k1_0_2, k1_1_2]
              have k2_1_3 : w2.frozen? ⟨w.heap.size + 1, 3, none⟩ = false := by rw [hf2 _ _ (by first | omega | (simp; done) | (simp; omega))]; simp [go_sem, k1_0_3, k1_1_3]
              have k2_1_4 : w2.frozen? ⟨w.heap.size + 1, 4, none⟩ = false := by rw [hf2 _ _ (by first | omega | (simp; done) | (simp; omega))]; simp [go_sem, k1_0_4, k1_1_4]
              have y2_1 : w.heap.size + 1 < w2.heap.size := by omega
              clear hc2 hf2 hz2
              go_wp2
              rw [HF.out]
              refine bodyPost_ret (v := .tuple #[.agg #[.int .i64 b.r, .int .i64 b.p, .int .i64 b.s, .int .i64 (b.l + x), .int .i64 now], .int .i64 0]) (by simp [results, Try.results19, go_sem, g2_1_0, g2_1_1, g2_1_2, g2_1_3, g2_1_4, y2_1]) rfl ?_
              exact ⟨rfl, by go_grown⟩
  · have HV := Lib.hid (fun w => valid_no b w h)
    have HF := Lib.hid (show badv b now = (zero, 1) by unfold badv; rw [if_pos (by simpa using h)])
    clear h
    unfold Bk.v zero at *
    go_enter Try.func19, Try.ntmps19
    go_wp2_with (first | (go_at_call 30; go_in) | (go_at_call 29; go_in))
    refine (HV.out _).mono ?_
    rintro e w1 ⟨rfl, hb1⟩
    obtain ⟨hc1, hf1⟩ := bcell hb1
    have hz1 := hb1.size
    try simp at hz1
    have HB1 : Below w.heap.size w w1 := Below.trans (by go_grown) (hb1.mono (by first | omega | (simp; done) | (simp; omega)))
    clear hb1
    have g1_0_0 : w1.cell? ⟨w.heap.size, 0, none⟩ = some (.int .i64 b.r) := by rw [hc1 _ _ (by first | omega | (simp; done) | (simp; omega))]; simp [go_sem]
    have g1_0_1 : w1.cell? ⟨w.heap.size, 1, none⟩ = some (.int .i64 b.p) := by rw [hc1 _ _ (by first | omega | (simp; done) | (simp; omega))]; simp [go_sem]
    have g1_0_2 : w1.cell? ⟨w.heap.size, 2, none⟩ = some (.int .i64 b.s) := by rw [hc1 _ _ (by first | omega | (simp; done) | (simp; omega))]; simp [go_sem]
    have g1_0_3 : w1.cell? ⟨w.heap.size, 3, none⟩ = some (.int .i64 b.l) := by rw [hc1 _ _ (by first | omega | (simp; done) | (simp; omega))]; simp [go_sem]
    have g1_0_4 : w1.cell? ⟨w.heap.size, 4, none⟩ = some (.int .i64 b.t) := by rw [hc1 _ _ (by first | omega | (simp; done) | (simp; omega))]; simp [go_sem]
    have k1_0_0 : w1.frozen? ⟨w.heap.size, 0, none⟩ = false := by rw [hf1 _ _ (by first | omega | (simp; done) | (simp; omega))]; simp [go_sem]
    have k1_0_1 : w1.frozen? ⟨w.heap.size, 1, none⟩ = false := by rw [hf1 _ _ (by first | omega | (simp; done) | (simp; omega))]; simp [go_sem]
    have k1_0_2 : w1.frozen? ⟨w.heap.size, 2, none⟩ = false := by rw [hf1 _ _ (by first | omega | (simp; done) | (simp; omega))]; simp [go_sem]
    have k1_0_3 : w1.frozen? ⟨w.heap.size, 3, none⟩ = false := by rw [hf1 _ _ (by first | omega | (simp; done) | (simp; omega))]; simp [go_sem]
    have k1_0_4 : w1.frozen? ⟨w.heap.size, 4, none⟩ = false := by rw [hf1 _ _ (by first | omega | (simp; done) | (simp; omega))]; simp [go_sem]
    have y1_0 : w.heap.size < w1.heap.size := by omega
    have g1_1_0 : w1.cell? ⟨w.heap.size + 1, 0, none⟩ = some (.int .i64 0) := by rw [hc1 _ _ (by first | omega | (simp; done) | (simp; omega))]; simp [go_sem]
    have g1_1_1 : w1.cell? ⟨w.heap.size + 1, 1, none⟩ = some (.int .i64 0) := by rw [hc1 _ _ (by first | omega | (simp; done) | (simp; omega))]; simp [go_sem]
    have g1_1_2 : w1.cell? ⟨w.heap.size + 1, 2, none⟩ = some (.int .i64 0) := by rw [hc1 _ _ (by first | omega | (simp; done) | (simp; omega))]; simp [go_sem]
    have g1_1_3 : w1.cell? ⟨w.heap.size + 1, 3, none⟩ = some (.int .i64 0) := by rw [hc1 _ _ (by first | omega | (simp; done) | (simp; omega))]; simp [go_sem]
    have g1_1_4 : w1.cell? ⟨w.heap.size + 1, 4, none⟩ = some (.int .i64 0) := by rw [hc1 _ _ (by first | omega | (simp; done) | (simp; omega))]; simp [go_sem]
    have k1_1_0 : w1.frozen? ⟨w.heap.size + 1, 0, none⟩ = false := by rw [hf1 _ _ (by first | omega | (simp; done) | (simp; omega))]; simp [go_sem]
    have k1_1_1 : w1.frozen? ⟨w.heap.size + 1, 1, none⟩ = false := by rw [hf1 _ _ (by first | omega | (simp; done) | (simp; omega))]; simp [go_sem]
    have k1_1_2 : w1.frozen? ⟨w.heap.size + 1, 2, none⟩ = false := by rw [hf1 _ _ (by first | omega | (simp; done) | (simp; omega))]; simp [go_sem]
    have k1_1_3 : w1.frozen? ⟨w.heap.size + 1, 3, none⟩ = false := by rw [hf1 _ _ (by first | omega | (simp; done) | (simp; omega))]; simp [go_sem]
    have k1_1_4 : w1.frozen? ⟨w.heap.size + 1, 4, none⟩ = false := by rw [hf1 _ _ (by first | omega | (simp; done) | (simp; omega))]; simp [go_sem]
    have y1_1 : w.heap.size + 1 < w1.heap.size := by omega
    clear hc1 hf1 hz1
    go_wp2
    rw [HF.out]
    refine bodyPost_ret (v := .tuple #[.agg #[.int .i64 0, .int .i64 0, .int .i64 0, .int .i64 0, .int .i64 0], .int .i64 1]) (by simp [results, Try.results19, go_sem, g1_1_0, g1_1_1, g1_1_2, g1_1_3, g1_1_4, y1_1]) rfl ?_
    exact ⟨rfl, by go_grown⟩

end Go.Proofs.Ytcfkmkabjalgjac
