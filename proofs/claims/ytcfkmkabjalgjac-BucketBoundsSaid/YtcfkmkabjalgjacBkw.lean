/- Contracts of buckets: When. -/
import Derived.Test.YtcfkmkabjalgjacBky
namespace Go.Proofs.Ytcfkmkabjalgjac
open Go.RowKit
set_option linter.unusedVariables false
set_option linter.unusedSimpArgs false

set_option maxHeartbeats 2000000 in
theorem when_any (b : Bk) (n : Int) (w : World) :
    Calls Try.prog 18 #[b.v, .int .i64 n] w fun e w' => e = .returned (.tuple #[.int .i64 (bwhen b n).1, .int .i64 (bwhen b n).2]) ∧ Below w.heap.size w w' := by
  by_cases h : Ok b
  · have HV := Lib.hid (fun w => valid_yes b w h)
    by_cases hn : n < 0
    · have HF := Lib.hid (show bwhen b n = (0, 3) by unfold bwhen; rw [if_neg (by simpa using h), if_pos (by omega)])
      clear h
      unfold Bk.v at *
      go_enter Try.func18, Try.ntmps18
      go_wp2_with (first | (go_at_call 30; go_in) | (go_at_call 29; go_in))
      refine (HV.out _).mono ?_
      rintro e w1 ⟨rfl, hb1⟩
      obtain ⟨hc1, hf1⟩ := bcell hb1
      have hz1 := hb1.size
      try simp at hz1
      have HB1 : Below w.heap.size w w1 := Below.trans (by go_grown) (hb1.mono (by first | omega | (simp; done) | (simp; omega)))
      clear hb1
      have g1_0_0 : w1.cell? ⟨w.heap.size, 0, none⟩ = some (.int .i64 b.r) := by rw [hc1 _ _ (by first | omega | (simp; done) | (simp; omega))]; simp [go_sem]
      have g1_0_1 : w1.cell? ⟨w.heap.size, 1, none⟩ = some (.int .i64 b.p) := by rw [hc1 _ _ (by first | omega | (simp; done) | (simp; omega))]; simp [go_sem]
      have g1_0_2 : w1.cell? ⟨w.heap.size, 2, none⟩ = some (.int .i64 b.s) := by rw [hc1 _ _ (by first | omega | (simp; done) | (simp; omega))]; simp [go_sem]
      have g1_0_3 : w1.cell? ⟨w.heap.size, 3, none⟩ = some (.int .i64 b.l) := by rw [hc1 _ _ (by first | omega | (simp; done) | (simp; omega))]; simp [go_sem]
      have g1_0_4 : w1.cell? ⟨w.heap.size, 4, none⟩ = some (.int .i64 b.t) := by rw [hc1 _ _ (by first | omega | (simp; done) | (simp; omega))]; simp [go_sem]
      have k1_0_0 : w1.frozen? ⟨w.heap.size, 0, none⟩ = false := by rw [hf1 _ _ (by first | omega | (simp; done) | (simp; omega))]; simp [go_sem]
      have k1_0_1 : w1.frozen? ⟨w.heap.size, 1, none⟩ = false := by rw [hf1 _ _ (by first | omega | (simp; done) | (simp; omega))]; simp [go_sem]
      have k1_0_2 : w1.frozen? ⟨w.heap.size, 2, none⟩ = false := by rw [hf1 _ _ (by first | omega | (simp; done) | (simp; omega))]; simp [go_sem]
      have k1_0_3 : w1.frozen? ⟨w.heap.size, 3, none⟩ = false := by rw [hf1 _ _ (by first | omega | (simp; done) | (simp; omega))]; simp [go_sem]
      have k1_0_4 : w1.frozen? ⟨w.heap.size, 4, none⟩ = false := by rw [hf1 _ _ (by first | omega | (simp; done) | (simp; omega))]; simp [go_sem]
      have y1_0 : w.heap.size < w1.heap.size := by omega
      clear hc1 hf1 hz1
      go_wp2
      go_ret2
      exact ⟨ret_ii (by rw [HF.out]) (by rw [HF.out]), by first | (go_grown; done) | (refine below_drewN ?_ _; go_grown)⟩
    · by_cases hn2 : 1073741824 < n
      · have HF := Lib.hid (show bwhen b n = (0, 3) by unfold bwhen; rw [if_neg (by simpa using h), if_pos (by omega)])
        have hn3 : decide (n ≤ 1073741824) = false := by simp; omega
        clear h
        unfold Bk.v at *
        go_enter Try.func18, Try.ntmps18
        go_wp2_with (first | (go_at_call 30; go_in) | (go_at_call 29; go_in))
        refine (HV.out _).mono ?_
        rintro e w1 ⟨rfl, hb1⟩
        obtain ⟨hc1, hf1⟩ := bcell hb1
        have hz1 := hb1.size
        try simp at hz1
        have HB1 : Below w.heap.size w w1 := Below.trans (by go_grown) (hb1.mono (by first | omega | (simp; done) | (simp; omega)))
        clear hb1
        have g1_0_0 : w1.cell? ⟨w.heap.size, 0, none⟩ = some (.int .i64 b.r) := by rw [hc1 _ _ (by first | omega | (simp; done) | (simp; omega))]; simp [go_sem]
        have g1_0_1 : w1.cell? ⟨w.heap.size, 1, none⟩ = some (.int .i64 b.p) := by rw [hc1 _ _ (by first | omega | (simp; done) | (simp; omega))]; simp [go_sem]
        have g1_0_2 : w1.cell? ⟨w.heap.size, 2, none⟩ = some (.int .i64 b.s) := by rw [hc1 _ _ (by first | omega | (simp; done) | (simp; omega))]; simp [go_sem]
        have g1_0_3 : w1.cell? ⟨w.heap.size, 3, none⟩ = some (.int .i64 b.l) := by rw [hc1 _ _ (by first | omega | (simp; done) | (simp; omega))]; simp [go_sem]
        have g1_0_4 : w1.cell? ⟨w.heap.size, 4, none⟩ = some (.int .i64 b.t) := by rw [hc1 _ _ (by first | omega | (simp; done) | (simp; omega))]; simp [go_sem]
        have k1_0_0 : w1.frozen? ⟨w.heap.size, 0, none⟩ = false := by rw [hf1 _ _ (by first | omega | (simp; done) | (simp; omega))]; simp [go_sem]
        have k1_0_1 : w1.frozen? ⟨w.heap.size, 1, none⟩ = false := by rw [hf1 _ _ (by first | omega | (simp; done) | (simp; omega))]; simp [go_sem]
        have k1_0_2 : w1.frozen? ⟨w.heap.size, 2, none⟩ = false := by rw [hf1 _ _ (by first | omega | (simp; done) | (simp; omega))]; simp [go_sem]
        have k1_0_3 : w1.frozen? ⟨w.heap.size, 3, none⟩ = false := by rw [hf1 _ _ (by first | omega | (simp; done) | (simp; omega))]; simp [go_sem]
        have k1_0_4 : w1.frozen? ⟨w.heap.size, 4, none⟩ = false := by rw [hf1 _ _ (by first | omega | (simp; done) | (simp; omega))]; simp [go_sem]
        have y1_0 : w.heap.size < w1.heap.size := by omega
        clear hc1 hf1 hz1
        go_wp2
        go_ret2
        exact ⟨ret_ii (by rw [HF.out]) (by rw [HF.out]), by first | (go_grown; done) | (refine below_drewN ?_ _; go_grown)⟩
      · have HN := Lib.hid (show ¬ (n < 0 ∨ 1073741824 < n) by omega)
        have n0 : 0 ≤ n := by omega
        have n1 : n ≤ 1073741824 := by omega
        have n3 : decide (n ≤ 1073741824) = true := by simp; omega
        clear hn hn2
        by_cases hr : b.r = 4611686018427387904
        · have HF := Lib.hid (show bwhen b n = (b.t, 0) by unfold bwhen; rw [if_neg (by simpa using h), if_neg HN.out, if_pos (.inl hr)])
          have hrb : (b.r == 4611686018427387904) = true := by simp [hr]
          obtain ⟨o1, o2, o3, o4, o5, o6⟩ := ok_open b h hr
          obtain ⟨m0, m1⟩ := mul_bd n0 n1 (show 0 ≤ b.p by omega) o2
          obtain ⟨y, hy⟩ : ∃ y, n * b.p = y := ⟨_, rfl⟩
          rw [hy] at m0 m1
          have m2 : y ≤ 1125899906842624 := by omega
          have o66 := Lib.hid o6
          have o55 := Lib.hid o5
          have l0 : 0 ≤ b.l := by omega
          have l1 : b.l ≤ 0 := by omega
          clear h hr m1 o5 o6
          unfold Bk.v at *
          go_enter Try.func18, Try.ntmps18
          go_wp2_with (first | (go_at_call 30; go_in) | (go_at_call 29; go_in))
          refine (HV.out _).mono ?_
          rintro e w1 ⟨rfl, hb1⟩
          obtain ⟨hc1, hf1⟩ := bcell hb1
          have hz1 := hb1.size
          try simp at hz1
          have HB1 : Below w.heap.size w w1 := Below.trans (by go_grown) (hb1.mono (by first | omega | (simp; done) | (simp; omega)))
          clear hb1
          have g1_0_0 : w1.cell? ⟨w.heap.size, 0, none⟩ = some (.int .i64 b.r) := by rw [hc1 _ _ (by first | omega | (simp; done) | (simp; omega))]; simp [go_sem]
          have g1_0_1 : w1.cell? ⟨w.heap.size, 1, none⟩ = some (.int .i64 b.p) := by rw [hc1 _ _ (by first | omega | (simp; done) | (simp; omega))]; simp [go_sem]
          have g1_0_2 : w1.cell? ⟨w.heap.size, 2, none⟩ = some (.int .i64 b.s) := by rw [hc1 _ _ (by first | omega | (simp; done) | (simp; omega))]; simp [go_sem]
          have g1_0_3 : w1.cell? ⟨w.heap.size, 3, none⟩ = some (.int .i64 b.l) := by rw [hc1 _ _ (by first | omega | (simp; done) | (simp; omega))]; simp [go_sem]
          have g1_0_4 : w1.cell? ⟨w.heap.size, 4, none⟩ = some (.int .i64 b.t) := by rw [hc1 _ _ (by first | omega | (simp; done) | (simp; omega))]; simp [go_sem]
          have k1_0_0 : w1.frozen? ⟨w.heap.size, 0, none⟩ = false := by rw [hf1 _ _ (by first | omega | (simp; done) | (simp; omega))]; simp [go_sem]
          have k1_0_1 : w1.frozen? ⟨w.heap.size, 1, none⟩ = false := by rw [hf1 _ _ (by first | omega | (simp; done) | (simp; omega))]; simp [go_sem]
          have k1_0_2 : w1.frozen? ⟨w.heap.size, 2, none⟩ = false := by rw [hf1 _ _ (by first | omega | (simp; done) | (simp; omega))]; simp [go_sem]
          have k1_0_3 : w1.frozen? ⟨w.heap.size, 3, none⟩ = false := by rw [hf1 _ _ (by first | omega | (simp; done) | (simp; omega))]; simp [go_sem]
          have k1_0_4 : w1.frozen? ⟨w.heap.size, 4, none⟩ = false := by rw [hf1 _ _ (by first | omega | (simp; done) | (simp; omega))]; simp [go_sem]
          have y1_0 : w.heap.size < w1.heap.size := by omega
          clear hc1 hf1 hz1
          go_wp2
          go_ret2
          exact ⟨ret_ii (by rw [HF.out]) (by rw [HF.out]), by first | (go_grown; done) | (refine below_drewN ?_ _; go_grown)⟩
        · have hrb : (b.r == 4611686018427387904) = false := by simp [hr]
          obtain ⟨o1, o2, o3, o4, o5, o6, o7, o8, o9, o10, o11⟩ := ok_shut b h hr
          obtain ⟨m0, m1⟩ := mul_bd n0 n1 (show 0 ≤ b.p by omega) o2
          obtain ⟨y, hy⟩ : ∃ y, n * b.p = y := ⟨_, rfl⟩
          rw [hy] at m0 m1
          have m2 : y ≤ 1125899906842624 := by omega
          clear m1
          by_cases hm : y - b.l ≤ 0
          · have HF := Lib.hid (show bwhen b n = (b.t, 0) by unfold bwhen; rw [if_neg (by simpa using h), if_neg HN.out, if_pos (.inr (by rw [hy]; exact hm))])
            clear h hr o10
            unfold Bk.v at *
            go_enter Try.func18, Try.ntmps18
            go_wp2_with (first | (go_at_call 30; go_in) | (go_at_call 29; go_in))
            refine (HV.out _).mono ?_
            rintro e w1 ⟨rfl, hb1⟩
            obtain ⟨hc1, hf1⟩ := bcell hb1
            have hz1 := hb1.size
            try simp at hz1
            have HB1 : Below w.heap.size w w1 := Below.trans (by go_grown) (hb1.mono (by first | omega | (simp; done) | (simp; omega)))
            clear hb1
            have g1_0_0 : w1.cell? ⟨w.heap.size, 0, none⟩ = some (.int .i64 b.r) := by rw [hc1 _ _ (by first | omega | (simp; done) | (simp; omega))]; simp [go_sem]
            have g1_0_1 : w1.cell? ⟨w.heap.size, 1, none⟩ = some (.int .i64 b.p) := by rw [hc1 _ _ (by first | omega | (simp; done) | (simp; omega))]; simp [go_sem]
            have g1_0_2 : w1.cell? ⟨w.heap.size, 2, none⟩ = some (.int .i64 b.s) := by rw [hc1 _ _ (by first | omega | (simp; done) | (simp; omega))]; simp [go_sem]
            have g1_0_3 : w1.cell? ⟨w.heap.size, 3, none⟩ = some (.int .i64 b.l) := by rw [hc1 _ _ (by first | omega | (simp; done) | (simp; omega))]; simp [go_sem]
            have g1_0_4 : w1.cell? ⟨w.heap.size, 4, none⟩ = some (.int .i64 b.t) := by rw [hc1 _ _ (by first | omega | (simp; done) | (simp; omega))]; simp [go_sem]
            have k1_0_0 : w1.frozen? ⟨w.heap.size, 0, none⟩ = false := by rw [hf1 _ _ (by first | omega | (simp; done) | (simp; omega))]; simp [go_sem]
            have k1_0_1 : w1.frozen? ⟨w.heap.size, 1, none⟩ = false := by rw [hf1 _ _ (by first | omega | (simp; done) | (simp; omega))]; simp [go_sem]
            have k1_0_2 : w1.frozen? ⟨w.heap.size, 2, none⟩ = false := by rw [hf1 _ _ (by first | omega | (simp; done) | (simp; omega))]; simp [go_sem]
            have k1_0_3 : w1.frozen? ⟨w.heap.size, 3, none⟩ = false := by rw [hf1 _ _ (by first | omega | (simp; done) | (simp; omega))]; simp [go_sem]
            have k1_0_4 : w1.frozen? ⟨w.heap.size, 4, none⟩ = false := by rw [hf1 _ _ (by first | omega | (simp; done) | (simp; omega))]; simp [go_sem]
            have y1_0 : w.heap.size < w1.heap.size := by omega
            clear hc1 hf1 hz1
            go_wp2
            go_ret2
            exact ⟨ret_ii (by rw [HF.out]) (by rw [HF.out]), by first | (go_grown; done) | (refine below_drewN ?_ _; go_grown)⟩
          · have HM := Lib.hid (show ¬ (b.r = 4611686018427387904 ∨ n * b.p - b.l ≤ 0) by rw [hy]; omega)
            by_cases hs : b.s < n
            · have HF := Lib.hid (show bwhen b n = (0, 21) by unfold bwhen; rw [if_neg (by simpa using h), if_neg HN.out, if_neg HM.out, if_pos (.inl hs)])
              clear h hr o10
              unfold Bk.v at *
              go_enter Try.func18, Try.ntmps18
              go_wp2_with (first | (go_at_call 30; go_in) | (go_at_call 29; go_in))
              refine (HV.out _).mono ?_
              rintro e w1 ⟨rfl, hb1⟩
              obtain ⟨hc1, hf1⟩ := bcell hb1
              have hz1 := hb1.size
              try simp at hz1
              have HB1 : Below w.heap.size w w1 := Below.trans (by go_grown) (hb1.mono (by first | omega | (simp; done) | (simp; omega)))
              clear hb1
              have g1_0_0 : w1.cell? ⟨w.heap.size, 0, none⟩ = some (.int .i64 b.r) := by rw [hc1 _ _ (by first | omega | (simp; done) | (simp; omega))]; simp [go_sem]
              have g1_0_1 : w1.cell? ⟨w.heap.size, 1, none⟩ = some (.int .i64 b.p) := by rw [hc1 _ _ (by first | omega | (simp; done) | (simp; omega))]; simp [go_sem]
              have g1_0_2 : w1.cell? ⟨w.heap.size, 2, none⟩ = some (.int .i64 b.s) := by rw [hc1 _ _ (by first | omega | (simp; done) | (simp; omega))]; simp [go_sem]
              have g1_0_3 : w1.cell? ⟨w.heap.size, 3, none⟩ = some (.int .i64 b.l) := by rw [hc1 _ _ (by first | omega | (simp; done) | (simp; omega))]; simp [go_sem]
              have g1_0_4 : w1.cell? ⟨w.heap.size, 4, none⟩ = some (.int .i64 b.t) := by rw [hc1 _ _ (by first | omega | (simp; done) | (simp; omega))]; simp [go_sem]
              have k1_0_0 : w1.frozen? ⟨w.heap.size, 0, none⟩ = false := by rw [hf1 _ _ (by first | omega | (simp; done) | (simp; omega))]; simp [go_sem]
              have k1_0_1 : w1.frozen? ⟨w.heap.size, 1, none⟩ = false := by rw [hf1 _ _ (by first | omega | (simp; done) | (simp; omega))]; simp [go_sem]
              have k1_0_2 : w1.frozen? ⟨w.heap.size, 2, none⟩ = false := by rw [hf1 _ _ (by first | omega | (simp; done) | (simp; omega))]; simp [go_sem]
              have k1_0_3 : w1.frozen? ⟨w.heap.size, 3, none⟩ = false := by rw [hf1 _ _ (by first | omega | (simp; done) | (simp; omega))]; simp [go_sem]
              have k1_0_4 : w1.frozen? ⟨w.heap.size, 4, none⟩ = false := by rw [hf1 _ _ (by first | omega | (simp; done) | (simp; omega))]; simp [go_sem]
              have y1_0 : w.heap.size < w1.heap.size := by omega
              clear hc1 hf1 hz1
              go_wp2
              go_ret2
              exact ⟨ret_ii (by rw [HF.out]) (by rw [HF.out]), by first | (go_grown; done) | (refine below_drewN ?_ _; go_grown)⟩
            · by_cases hr0 : b.r = 0
              · have HF := Lib.hid (show bwhen b n = (0, 21) by unfold bwhen; rw [if_neg (by simpa using h), if_neg HN.out, if_neg HM.out, if_pos (.inr hr0)])
                have hr1 : (b.r == 0) = true := by simp [hr0]
                clear h hr o10 hr0
                unfold Bk.v at *
                go_enter Try.func18, Try.ntmps18
                go_wp2_with (first | (go_at_call 30; go_in) | (go_at_call 29; go_in))
                refine (HV.out _).mono ?_
                rintro e w1 ⟨rfl, hb1⟩
                obtain ⟨hc1, hf1⟩ := bcell hb1
                have hz1 := hb1.size
                try simp at hz1
                have HB1 : Below w.heap.size w w1 := Below.trans (by go_grown) (hb1.mono (by first | omega | (simp; done) | (simp; omega)))
                clear hb1
                have g1_0_0 : w1.cell? ⟨w.heap.size, 0, none⟩ = some (.int .i64 b.r) := by rw [hc1 _ _ (by first | omega | (simp; done) | (simp; omega))]; simp [go_sem]
                have g1_0_1 : w1.cell? ⟨w.heap.size, 1, none⟩ = some (.int .i64 b.p) := by rw [hc1 _ _ (by first | omega | (simp; done) | (simp; omega))]; simp [go_sem]
                have g1_0_2 : w1.cell? ⟨w.heap.size, 2, none⟩ = some (.int .i64 b.s) := by rw [hc1 _ _ (by first | omega | (simp; done) | (simp; omega))]; simp [go_sem]
                have g1_0_3 : w1.cell? ⟨w.heap.size, 3, none⟩ = some (.int .i64 b.l) := by rw [hc1 _ _ (by first | omega | (simp; done) | (simp; omega))]; simp [go_sem]
                have g1_0_4 : w1.cell? ⟨w.heap.size, 4, none⟩ = some (.int .i64 b.t) := by rw [hc1 _ _ (by first | omega | (simp; done) | (simp; omega))]; simp [go_sem]
                have k1_0_0 : w1.frozen? ⟨w.heap.size, 0, none⟩ = false := by rw [hf1 _ _ (by first | omega | (simp; done) | (simp; omega))]; simp [go_sem]
                have k1_0_1 : w1.frozen? ⟨w.heap.size, 1, none⟩ = false := by rw [hf1 _ _ (by first | omega | (simp; done) | (simp; omega))]; simp [go_sem]
                have k1_0_2 : w1.frozen? ⟨w.heap.size, 2, none⟩ = false := by rw [hf1 _ _ (by first | omega | (simp; done) | (simp; omega))]; simp [go_sem]
                have k1_0_3 : w1.frozen? ⟨w.heap.size, 3, none⟩ = false := by rw [hf1 _ _ (by first | omega | (simp; done) | (simp; omega))]; simp [go_sem]
                have k1_0_4 : w1.frozen? ⟨w.heap.size, 4, none⟩ = false := by rw [hf1 _ _ (by first | omega | (simp; done) | (simp; omega))]; simp [go_sem]
                have y1_0 : w.heap.size < w1.heap.size := by omega
                clear hc1 hf1 hz1
                go_wp2
                go_ret2
                exact ⟨ret_ii (by rw [HF.out]) (by rw [HF.out]), by first | (go_grown; done) | (refine below_drewN ?_ _; go_grown)⟩
              · have hr1 : (b.r == 0) = false := by simp [hr0]
                have HS := Lib.hid (show ¬ (b.s < n ∨ b.r = 0) by omega)
                have r1 : 1 ≤ b.r := by omega
                have z0 : 0 ≤ (y - b.l + b.r - 1) / b.r := Int.ediv_nonneg (by omega) (by omega)
                have z1 : (y - b.l + b.r - 1) / b.r ≤ y - b.l + b.r - 1 := Int.ediv_le_self _ (by omega)
                obtain ⟨z, hz⟩ : ∃ z, (y - b.l + b.r - 1) / b.r = z := ⟨_, rfl⟩
                rw [hz] at z0 z1
                have z2 : z ≤ 2251799813685248 := by omega
                clear hr0 z1
                by_cases hf : 1048576 < b.t + z
                · have HF := Lib.hid (show bwhen b n = (0, 21) by unfold bwhen; rw [if_neg (by simpa using h), if_neg HN.out, if_neg HM.out, if_neg HS.out, hy, hz, if_pos hf])
                  clear h hr o10
                  unfold Bk.v at *
                  go_enter Try.func18, Try.ntmps18
                  go_wp2_with (first | (go_at_call 30; go_in) | (go_at_call 29; go_in))
                  refine (HV.out _).mono ?_
                  rintro e w1 ⟨rfl, hb1⟩
                  obtain ⟨hc1, hf1⟩ := bcell hb1
                  have hz1 := hb1.size
                  try simp at hz1
                  have HB1 : Below w.heap.size w w1 := Below.trans (by go_grown) (hb1.mono (by first | omega | (simp; done) | (simp; omega)))
                  clear hb1
                  have g1_0_0 : w1.cell? ⟨w.heap.size, 0, none⟩ = some (.int .i64 b.r) := by rw [hc1 _ _ (by first | omega | (simp; done) | (simp; omega))]; simp [go_sem]
                  have g1_0_1 : w1.cell? ⟨w.heap.size, 1, none⟩ = some (.int .i64 b.p) := by rw [hc1 _ _ (by first | omega | (simp; done) | (simp; omega))]; simp [go_sem]
                  have g1_0_2 : w1.cell? ⟨w.heap.size, 2, none⟩ = some (.int .i64 b.s) := by rw [hc1 _ _ (by first | omega | (simp; done) | (simp; omega))]; simp [go_sem]
                  have g1_0_3 : w1.cell? ⟨w.heap.size, 3, none⟩ = some (.int .i64 b.l) := by rw [hc1 _ _ (by first | omega | (simp; done) | (simp; omega))]; simp [go_sem]
                  have g1_0_4 : w1.cell? ⟨w.heap.size, 4, none⟩ = some (.int .i64 b.t) := by rw [hc1 _ _ (by first | omega | (simp; done) | (simp; omega))]; simp [go_sem]
                  have k1_0_0 : w1.frozen? ⟨w.heap.size, 0, none⟩ = false := by rw [hf1 _ _ (by first | omega | (simp; done) | (simp; omega))]; simp [go_sem]
                  have k1_0_1 : w1.frozen? ⟨w.heap.size, 1, none⟩ = false := by rw [hf1 _ _ (by first | omega | (simp; done) | (simp; omega))]; simp [go_sem]
                  have k1_0_2 : w1.frozen? ⟨w.heap.size, 2, none⟩ = false := by rw [hf1 _ _ (by first | omega | (simp; done) | (simp; omega))]; simp [go_sem]
                  have k1_0_3 : w1.frozen? ⟨w.heap.size, 3, none⟩ = false := by rw [hf1 _ _ (by first | omega | (simp; done) | (simp; omega))]; simp [go_sem]
                  have k1_0_4 : w1.frozen? ⟨w.heap.size, 4, none⟩ = false := by rw [hf1 _ _ (by first | omega | (simp; done) | (simp; omega))]; simp [go_sem]
                  have y1_0 : w.heap.size < w1.heap.size := by omega
                  clear hc1 hf1 hz1
                  go_wp2
                  go_quiet (fail)
                  go_wp2
                  go_ret2
                  exact ⟨ret_ii (by rw [HF.out]) (by rw [HF.out]), by first | (go_grown; done) | (refine below_drewN ?_ _; go_grown)⟩
                · have HF := Lib.hid (show bwhen b n = (b.t + z, 0) by unfold bwhen; rw [if_neg (by simpa using h), if_neg HN.out, if_neg HM.out, if_neg HS.out, hy, hz, if_neg hf])
                  clear h hr o10
                  unfold Bk.v at *
                  go_enter Try.func18, Try.ntmps18
                  go_wp2_with (first | (go_at_call 30; go_in) | (go_at_call 29; go_in))
                  refine (HV.out _).mono ?_
                  rintro e w1 ⟨rfl, hb1⟩
                  obtain ⟨hc1, hf1⟩ := bcell hb1
                  have hz1 := hb1.size
                  try simp at hz1
                  have HB1 : Below w.heap.size w w1 := Below.trans (by go_grown) (hb1.mono (by first | omega | (simp; done) | (simp; omega)))
                  clear hb1
                  have g1_0_0 : w1.cell? ⟨w.heap.size, 0, none⟩ = some (.int .i64 b.r) := by rw [hc1 _ _ (by first | omega | (simp; done) | (simp; omega))]; simp [go_sem]
                  have g1_0_1 : w1.cell? ⟨w.heap.size, 1, none⟩ = some (.int .i64 b.p) := by rw [hc1 _ _ (by first | omega | (simp; done) | (simp; omega))]; simp [go_sem]
                  have g1_0_2 : w1.cell? ⟨w.heap.size, 2, none⟩ = some (.int .i64 b.s) := by rw [hc1 _ _ (by first | omega | (simp; done) | (simp; omega))]; simp [go_sem]
                  have g1_0_3 : w1.cell? ⟨w.heap.size, 3, none⟩ = some (.int .i64 b.l) := by rw [hc1 _ _ (by first | omega | (simp; done) | (simp; omega))]; simp [go_sem]
                  have g1_0_4 : w1.cell? ⟨w.heap.size, 4, none⟩ = some (.int .i64 b.t) := by rw [hc1 _ _ (by first | omega | (simp; done) | (simp; omega))]; simp [go_sem]
                  have k1_0_0 : w1.frozen? ⟨w.heap.size, 0, none⟩ = false := by rw [hf1 _ _ (by first | omega | (simp; done) | (simp; omega))]; simp [go_sem]
                  have k1_0_1 : w1.frozen? ⟨w.heap.size, 1, none⟩ = false := by rw [hf1 _ _ (by first | omega | (simp; done) | (simp; omega))]; simp [go_sem]
                  have k1_0_2 : w1.frozen? ⟨w.heap.size, 2, none⟩ = false := by rw [hf1 _ _ (by first | omega | (simp; done) | (simp; omega))]; simp [go_sem]
                  have k1_0_3 : w1.frozen? ⟨w.heap.size, 3, none⟩ = false := by rw [hf1 _ _ (by first | omega | (simp; done) | (simp; omega))]; simp [go_sem]
                  have k1_0_4 : w1.frozen? ⟨w.heap.size, 4, none⟩ = false := by rw [hf1 _ _ (by first | omega | (simp; done) | (simp; omega))]; simp [go_sem]
                  have y1_0 : w.heap.size < w1.heap.size := by omega
                  clear hc1 hf1 hz1
                  go_wp2
                  go_quiet (fail)
                  go_wp2
                  go_ret2
                  exact ⟨ret_ii (by rw [HF.out]) (by rw [HF.out]), by first | (go_grown; done) | (refine below_drewN ?_ _; go_grown)⟩
  · have HV := Lib.hid (fun w => valid_no b w h)
    have HF := Lib.hid (show bwhen b n = (0, 1) by unfold bwhen; rw [if_pos (by simpa using h)])
    clear h
    unfold Bk.v at *
    go_enter Try.func18, Try.ntmps18
    go_wp2_with (first | (go_at_call 30; go_in) | (go_at_call 29; go_in))
    refine (HV.out _).mono ?_
    rintro e w1 ⟨rfl, hb1⟩
    obtain ⟨hc1, hf1⟩ := bcell hb1
    have hz1 := hb1.size
    try simp at hz1
    have HB1 : Below w.heap.size w w1 := Below.trans (by go_grown) (hb1.mono (by first | omega | (simp; done) | (simp; omega)))
    clear hb1
    have g1_0_0 : w1.cell? ⟨w.heap.size, 0, none⟩ = some (.int .i64 b.r) := by rw [hc1 _ _ (by first | omega | (simp; done) | (simp; omega))]; simp [go_sem]
    have g1_0_1 : w1.cell? ⟨w.heap.size, 1, none⟩ = some (.int .i64 b.p) := by rw [hc1 _ _ (by first | omega | (simp; done) | (simp; omega))]; simp [go_sem]
    have g1_0_2 : w1.cell? ⟨w.heap.size, 2, none⟩ = some (.int .i64 b.s) := by rw [hc1 _ _ (by first | omega | (simp; done) | (simp; omega))]; simp [go_sem]
    have g1_0_3 : w1.cell? ⟨w.heap.size, 3, none⟩ = some (.int .i64 b.l) := by rw [hc1 _ _ (by first | omega | (simp; done) | (simp; omega))]; simp [go_sem]
    have g1_0_4 : w1.cell? ⟨w.heap.size, 4, none⟩ = some (.int .i64 b.t) := by rw [hc1 _ _ (by first | omega | (simp; done) | (simp; omega))]; simp [go_sem]
    have k1_0_0 : w1.frozen? ⟨w.heap.size, 0, none⟩ = false := by rw [hf1 _ _ (by first | omega | (simp; done) | (simp; omega))]; simp [go_sem]
    have k1_0_1 : w1.frozen? ⟨w.heap.size, 1, none⟩ = false := by rw [hf1 _ _ (by first | omega | (simp; done) | (simp; omega))]; simp [go_sem]
    have k1_0_2 : w1.frozen? ⟨w.heap.size, 2, none⟩ = false := by rw [hf1 _ _ (by first | omega | (simp; done) | (simp; omega))]; simp [go_sem]
    have k1_0_3 : w1.frozen? ⟨w.heap.size, 3, none⟩ = false := by rw [hf1 _ _ (by first | omega | (simp; done) | (simp; omega))]; simp [go_sem]
    have k1_0_4 : w1.frozen? ⟨w.heap.size, 4, none⟩ = false := by rw [hf1 _ _ (by first | omega | (simp; done) | (simp; omega))]; simp [go_sem]
    have y1_0 : w.heap.size < w1.heap.size := by omega
    clear hc1 hf1 hz1
    go_wp2
    go_ret2
    exact ⟨ret_ii (by rw [HF.out]) (by rw [HF.out]), by first | (go_grown; done) | (refine below_drewN ?_ _; go_grown)⟩

end Go.Proofs.Ytcfkmkabjalgjac
