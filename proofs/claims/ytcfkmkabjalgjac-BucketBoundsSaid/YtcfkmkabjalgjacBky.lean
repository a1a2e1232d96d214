/- Contracts of buckets: Tokens, New. -/
import Derived.Test.YtcfkmkabjalgjacBkx
namespace Go.Proofs.Ytcfkmkabjalgjac
open Go.RowKit
set_option linter.unusedVariables false
set_option linter.unusedSimpArgs false

set_option maxHeartbeats 2000000 in
theorem tok_any (b : Bk) (w : World) :
    Calls Try.prog 17 #[b.v] w fun e w' => e = .returned (.int .i64 (btok b)) ∧ Below w.heap.size w w' := by
  by_cases h : Ok b
  · have HV := Lib.hid (fun w => valid_yes b w h)
    by_cases hr : b.r = 4611686018427387904
    · have HF := Lib.hid (show btok b = 1073741824 by unfold btok; rw [if_neg (by simpa using h), if_pos hr])
      have hrb : (b.r == 4611686018427387904) = true := by simp [hr]
      clear h hr
      unfold Bk.v at *
      go_enter Try.func17, Try.ntmps17
      go_wp2_with (first | (go_at_call 30; go_in) | (go_at_call 29; go_in))
      refine (HV.out _).mono ?_
      rintro e w1 ⟨rfl, hb1⟩
      obtain ⟨hc1, hf1⟩ := bcell hb1
      have hz1 := hb1.size
      simp at hz1
      have HB1 : Below w.heap.size w w1 := Below.trans (by go_grown) (hb1.mono (by first | (simp; done) | (simp; omega)))
      clear hb1
      have g1_0_0 : w1.cell? ⟨w.heap.size, 0, none⟩ = some (.int .i64 b.r) := by rw [hc1 _ _ (by first | (simp; done) | (simp; omega))]; simp [go_sem]
      have g1_0_1 : w1.cell? ⟨w.heap.size, 1, none⟩ = some (.int .i64 b.p) := by rw [hc1 _ _ (by first | (simp; done) | (simp; omega))]; simp [go_sem]
      have g1_0_2 : w1.cell? ⟨w.heap.size, 2, none⟩ = some (.int .i64 b.s) := by rw [hc1 _ _ (by first | (simp; done) | (simp; omega))]; simp [go_sem]
      have g1_0_3 : w1.cell? ⟨w.heap.size, 3, none⟩ = some (.int .i64 b.l) := by rw [hc1 _ _ (by first | (simp; done) | (simp; omega))]; simp [go_sem]
      have g1_0_4 : w1.cell? ⟨w.heap.size, 4, none⟩ = some (.int .i64 b.t) := by rw [hc1 _ _ (by first | (simp; done) | (simp; omega))]; simp [go_sem]
      have k1_0_0 : w1.frozen? ⟨w.heap.size, 0, none⟩ = false := by rw [hf1 _ _ (by first | (simp; done) | (simp; omega))]; simp [go_sem]
      have k1_0_1 : w1.frozen? ⟨w.heap.size, 1, none⟩ = false := by rw [hf1 _ _ (by first | (simp; done) | (simp; omega))]; simp [go_sem]
      have k1_0_2 : w1.frozen? ⟨w.heap.size, 2, none⟩ = false := by rw [hf1 _ _ (by first | (simp; done) | (simp; omega))]; simp [go_sem]
      have k1_0_3 : w1.frozen? ⟨w.heap.size, 3, none⟩ = false := by rw [hf1 _ _ (by first | (simp; done) | (simp; omega))]; simp [go_sem]
      have k1_0_4 : w1.frozen? ⟨w.heap.size, 4, none⟩ = false := by rw [hf1 _ _ (by first | (simp; done) | (simp; omega))]; simp [go_sem]
      have y1_0 : w.heap.size < w1.heap.size := by omega
      clear hc1 hf1 hz1
      go_wp2
      go_ret
      exact ⟨ret_i (by rw [HF.out]), by go_grown⟩
    · have HF := Lib.hid (show btok b = b.l / b.p by unfold btok; rw [if_neg (by simpa using h), if_neg hr])
      have hrb : (b.r == 4611686018427387904) = false := by simp [hr]
      obtain ⟨o1, o2, o3, o4, o5, o6, o7, o8, o9, o10, o11⟩ := ok_shut b h hr
      have hp0 : (b.p == 0) = false := by simp; omega
      clear h hr o10
      unfold Bk.v at *
      go_enter Try.func17, Try.ntmps17
      go_wp2_with (first | (go_at_call 30; go_in) | (go_at_call 29; go_in))
      refine (HV.out _).mono ?_
      rintro e w1 ⟨rfl, hb1⟩
      obtain ⟨hc1, hf1⟩ := bcell hb1
      have hz1 := hb1.size
      simp at hz1
      have HB1 : Below w.heap.size w w1 := Below.trans (by go_grown) (hb1.mono (by first | (simp; done) | (simp; omega)))
      clear hb1
      have g1_0_0 : w1.cell? ⟨w.heap.size, 0, none⟩ = some (.int .i64 b.r) := by rw [hc1 _ _ (by first | (simp; done) | (simp; omega))]; simp [go_sem]
      have g1_0_1 : w1.cell? ⟨w.heap.size, 1, none⟩ = some (.int .i64 b.p) := by rw [hc1 _ _ (by first | (simp; done) | (simp; omega))]; simp [go_sem]
      have g1_0_2 : w1.cell? ⟨w.heap.size, 2, none⟩ = some (.int .i64 b.s) := by rw [hc1 _ _ (by first | (simp; done) | (simp; omega))]; simp [go_sem]
      have g1_0_3 : w1.cell? ⟨w.heap.size, 3, none⟩ = some (.int .i64 b.l) := by rw [hc1 _ _ (by first | (simp; done) | (simp; omega))]; simp [go_sem]
      have g1_0_4 : w1.cell? ⟨w.heap.size, 4, none⟩ = some (.int .i64 b.t) := by rw [hc1 _ _ (by first | (simp; done) | (simp; omega))]; simp [go_sem]
      have k1_0_0 : w1.frozen? ⟨w.heap.size, 0, none⟩ = false := by rw [hf1 _ _ (by first | (simp; done) | (simp; omega))]; simp [go_sem]
      have k1_0_1 : w1.frozen? ⟨w.heap.size, 1, none⟩ = false := by rw [hf1 _ _ (by first | (simp; done) | (simp; omega))]; simp [go_sem]
      have k1_0_2 : w1.frozen? ⟨w.heap.size, 2, none⟩ = false := by rw [hf1 _ _ (by first | (simp; done) | (simp; omega))]; simp [go_sem]
      have k1_0_3 : w1.frozen? ⟨w.heap.size, 3, none⟩ = false := by rw [hf1 _ _ (by first | (simp; done) | (simp; omega))]; simp [go_sem]
      have k1_0_4 : w1.frozen? ⟨w.heap.size, 4, none⟩ = false := by rw [hf1 _ _ (by first | (simp; done) | (simp; omega))]; simp [go_sem]
      have y1_0 : w.heap.size < w1.heap.size := by omega
      clear hc1 hf1 hz1
      go_wp2
      go_ret
      exact ⟨ret_i (by rw [HF.out]), by go_grown⟩
  · have HV := Lib.hid (fun w => valid_no b w h)
    have HF := Lib.hid (show btok b = 0 by unfold btok; rw [if_pos (by simpa using h)])
    clear h
    unfold Bk.v at *
    go_enter Try.func17, Try.ntmps17
    go_wp2_with (first | (go_at_call 30; go_in) | (go_at_call 29; go_in))
    refine (HV.out _).mono ?_
    rintro e w1 ⟨rfl, hb1⟩
    obtain ⟨hc1, hf1⟩ := bcell hb1
    have hz1 := hb1.size
    simp at hz1
    have HB1 : Below w.heap.size w w1 := Below.trans (by go_grown) (hb1.mono (by first | (simp; done) | (simp; omega)))
    clear hb1
    have g1_0_0 : w1.cell? ⟨w.heap.size, 0, none⟩ = some (.int .i64 b.r) := by rw [hc1 _ _ (by first | (simp; done) | (simp; omega))]; simp [go_sem]
    have g1_0_1 : w1.cell? ⟨w.heap.size, 1, none⟩ = some (.int .i64 b.p) := by rw [hc1 _ _ (by first | (simp; done) | (simp; omega))]; simp [go_sem]
    have g1_0_2 : w1.cell? ⟨w.heap.size, 2, none⟩ = some (.int .i64 b.s) := by rw [hc1 _ _ (by first | (simp; done) | (simp; omega))]; simp [go_sem]
    have g1_0_3 : w1.cell? ⟨w.heap.size, 3, none⟩ = some (.int .i64 b.l) := by rw [hc1 _ _ (by first | (simp; done) | (simp; omega))]; simp [go_sem]
    have g1_0_4 : w1.cell? ⟨w.heap.size, 4, none⟩ = some (.int .i64 b.t) := by rw [hc1 _ _ (by first | (simp; done) | (simp; omega))]; simp [go_sem]
    have k1_0_0 : w1.frozen? ⟨w.heap.size, 0, none⟩ = false := by rw [hf1 _ _ (by first | (simp; done) | (simp; omega))]; simp [go_sem]
    have k1_0_1 : w1.frozen? ⟨w.heap.size, 1, none⟩ = false := by rw [hf1 _ _ (by first | (simp; done) | (simp; omega))]; simp [go_sem]
    have k1_0_2 : w1.frozen? ⟨w.heap.size, 2, none⟩ = false := by rw [hf1 _ _ (by first | (simp; done) | (simp; omega))]; simp [go_sem]
    have k1_0_3 : w1.frozen? ⟨w.heap.size, 3, none⟩ = false := by rw [hf1 _ _ (by first | (simp; done) | (simp; omega))]; simp [go_sem]
    have k1_0_4 : w1.frozen? ⟨w.heap.size, 4, none⟩ = false := by rw [hf1 _ _ (by first | (simp; done) | (simp; omega))]; simp [go_sem]
    have y1_0 : w.heap.size < w1.heap.size := by omega
    clear hc1 hf1 hz1
    go_wp2
    go_ret
    exact ⟨ret_i (by rw [HF.out]), by go_grown⟩

set_option maxHeartbeats 2000000 in
theorem new_any (r p s t : Int) (w : World) :
    Calls Try.prog 21 #[.int .i64 r, .int .i64 p, .int .i64 s, .int .i64 t] w fun e w' => e = .returned (.tuple #[(bnew r p s t).1.v, .int .i64 (bnew r p s t).2]) ∧ Below w.heap.size w w' := by
  by_cases hr : r = 4611686018427387904
  · have hrb : (r == 4611686018427387904) = true := by simp [hr]
    by_cases h : Ok ⟨r, p, 0, 0, t⟩
    · have HV := Lib.hid (fun w => valid_yes _ w h)
      have HF := Lib.hid (show bnew r p s t = (⟨r, p, 0, 0, t⟩, 0) by unfold bnew; rw [if_pos hr, if_pos h]; simp)
      clear h hr
      go_enter Try.func21, Try.ntmps21
      unfold Bk.v at *
      go_wp2_with (first | (go_at_call 30; go_in) | (go_at_call 29; go_in))
      refine (HV.out _).mono ?_
      rintro e w1 ⟨rfl, hb1⟩
      obtain ⟨hc1, hf1⟩ := bcell hb1
      have hz1 := hb1.size
      simp at hz1
      have HB1 : Below w.heap.size w w1 := Below.trans (by go_grown) (hb1.mono (by first | (simp; done) | (simp; omega)))
      clear hb1
      have g1_0_0 : w1.cell? ⟨w.heap.size, 0, none⟩ = some (.int .i64 0) := by rw [hc1 _ _ (by first | (simp; done) | (simp; omega))]; simp [go_sem]
      have g1_0_1 : w1.cell? ⟨w.heap.size, 1, none⟩ = some (.int .i64 0) := by rw [hc1 _ _ (by first | (simp; done) | (simp; omega))]; simp [go_sem]
      have g1_0_2 : w1.cell? ⟨w.heap.size, 2, none⟩ = some (.int .i64 0) := by rw [hc1 _ _ (by first | (simp; done) | (simp; omega))]; simp [go_sem]
      have g1_0_3 : w1.cell? ⟨w.heap.size, 3, none⟩ = some (.int .i64 0) := by rw [hc1 _ _ (by first | (simp; done) | (simp; omega))]; simp [go_sem]
      have g1_0_4 : w1.cell? ⟨w.heap.size, 4, none⟩ = some (.int .i64 0) := by rw [hc1 _ _ (by first | (simp; done) | (simp; omega))]; simp [go_sem]
      have k1_0_0 : w1.frozen? ⟨w.heap.size, 0, none⟩ = false := by rw [hf1 _ _ (by first | (simp; done) | (simp; omega))]; simp [go_sem]
      have k1_0_1 : w1.frozen? ⟨w.heap.size, 1, none⟩ = false := by rw [hf1 _ _ (by first | (simp; done) | (simp; omega))]; simp [go_sem]
      have k1_0_2 : w1.frozen? ⟨w.heap.size, 2, none⟩ = false := by rw [hf1 _ _ (by first | (simp; done) | (simp; omega))]; simp [go_sem]
      have k1_0_3 : w1.frozen? ⟨w.heap.size, 3, none⟩ = false := by rw [hf1 _ _ (by first | (simp; done) | (simp; omega))]; simp [go_sem]
      have k1_0_4 : w1.frozen? ⟨w.heap.size, 4, none⟩ = false := by rw [hf1 _ _ (by first | (simp; done) | (simp; omega))]; simp [go_sem]
      have y1_0 : w.heap.size < w1.heap.size := by omega
      have g1_1_0 : w1.cell? ⟨w.heap.size + 1, 0, none⟩ = some (.int .i64 r) := by rw [hc1 _ _ (by first | (simp; done) | (simp; omega))]; simp [go_sem]
      have g1_1_1 : w1.cell? ⟨w.heap.size + 1, 1, none⟩ = some (.int .i64 p) := by rw [hc1 _ _ (by first | (simp; done) | (simp; omega))]; simp [go_sem]
      have g1_1_2 : w1.cell? ⟨w.heap.size + 1, 2, none⟩ = some (.int .i64 0) := by rw [hc1 _ _ (by first | (simp; done) | (simp; omega))]; simp [go_sem]
      have g1_1_3 : w1.cell? ⟨w.heap.size + 1, 3, none⟩ = some (.int .i64 0) := by rw [hc1 _ _ (by first | (simp; done) | (simp; omega))]; simp [go_sem]
      have g1_1_4 : w1.cell? ⟨w.heap.size + 1, 4, none⟩ = some (.int .i64 t) := by rw [hc1 _ _ (by first | (simp; done) | (simp; omega))]; simp [go_sem]
      have k1_1_0 : w1.frozen? ⟨w.heap.size + 1, 0, none⟩ = false := by rw [hf1 _ _ (by first | (simp; done) | (simp; omega))]; simp [go_sem]
      have k1_1_1 : w1.frozen? ⟨w.heap.size + 1, 1, none⟩ = false := by rw [hf1 _ _ (by first | (simp; done) | (simp; omega))]; simp [go_sem]
      have k1_1_2 : w1.frozen? ⟨w.heap.size + 1, 2, none⟩ = false := by rw [hf1 _ _ (by first | (simp; done) | (simp; omega))]; simp [go_sem]
      have k1_1_3 : w1.frozen? ⟨w.heap.size + 1, 3, none⟩ = false := by rw [hf1 _ _ (by first | (simp; done) | (simp; omega))]; simp [go_sem]
      have k1_1_4 : w1.frozen? ⟨w.heap.size + 1, 4, none⟩ = false := by rw [hf1 _ _ (by first | (simp; done) | (simp; omega))]; simp [go_sem]
      have y1_1 : w.heap.size + 1 < w1.heap.size := by omega
      clear hc1 hf1 hz1
      go_wp2
      rw [HF.out]
      refine bodyPost_ret (v := .tuple #[.agg #[.int .i64 r, .int .i64 p, .int .i64 0, .int .i64 0, .int .i64 t], .int .i64 0]) (by simp [results, Try.results21, go_sem, g1_0_0, g1_0_1, g1_0_2, g1_0_3, g1_0_4]) rfl ?_
      exact ⟨rfl, by go_grown⟩
    · have HV := Lib.hid (fun w => valid_no _ w h)
      have HF := Lib.hid (show bnew r p s t = (zero, 3) by unfold bnew; rw [if_pos hr, if_neg h])
      clear h hr
      go_enter Try.func21, Try.ntmps21
      unfold Bk.v zero at *
      go_wp2_with (first | (go_at_call 30; go_in) | (go_at_call 29; go_in))
      refine (HV.out _).mono ?_
      rintro e w1 ⟨rfl, hb1⟩
      obtain ⟨hc1, hf1⟩ := bcell hb1
      have hz1 := hb1.size
      simp at hz1
      have HB1 : Below w.heap.size w w1 := Below.trans (by go_grown) (hb1.mono (by first | (simp; done) | (simp; omega)))
      clear hb1
      have g1_0_0 : w1.cell? ⟨w.heap.size, 0, none⟩ = some (.int .i64 0) := by rw [hc1 _ _ (by first | (simp; done) | (simp; omega))]; simp [go_sem]
      have g1_0_1 : w1.cell? ⟨w.heap.size, 1, none⟩ = some (.int .i64 0) := by rw [hc1 _ _ (by first | (simp; done) | (simp; omega))]; simp [go_sem]
      have g1_0_2 : w1.cell? ⟨w.heap.size, 2, none⟩ = some (.int .i64 0) := by rw [hc1 _ _ (by first | (simp; done) | (simp; omega))]; simp [go_sem]
      have g1_0_3 : w1.cell? ⟨w.heap.size, 3, none⟩ = some (.int .i64 0) := by rw [hc1 _ _ (by first | (simp; done) | (simp; omega))]; simp [go_sem]
      have g1_0_4 : w1.cell? ⟨w.heap.size, 4, none⟩ = some (.int .i64 0) := by rw [hc1 _ _ (by first | (simp; done) | (simp; omega))]; simp [go_sem]
      have k1_0_0 : w1.frozen? ⟨w.heap.size, 0, none⟩ = false := by rw [hf1 _ _ (by first | (simp; done) | (simp; omega))]; simp [go_sem]
      have k1_0_1 : w1.frozen? ⟨w.heap.size, 1, none⟩ = false := by rw [hf1 _ _ (by first | (simp; done) | (simp; omega))]; simp [go_sem]
      have k1_0_2 : w1.frozen? ⟨w.heap.size, 2, none⟩ = false := by rw [hf1 _ _ (by first | (simp; done) | (simp; omega))]; simp [go_sem]
      have k1_0_3 : w1.frozen? ⟨w.heap.size, 3, none⟩ = false := by rw [hf1 _ _ (by first | (simp; done) | (simp; omega))]; simp [go_sem]
      have k1_0_4 : w1.frozen? ⟨w.heap.size, 4, none⟩ = false := by rw [hf1 _ _ (by first | (simp; done) | (simp; omega))]; simp [go_sem]
      have y1_0 : w.heap.size < w1.heap.size := by omega
      clear hc1 hf1 hz1
      go_wp2
      rw [HF.out]
      refine bodyPost_ret (v := .tuple #[.agg #[.int .i64 0, .int .i64 0, .int .i64 0, .int .i64 0, .int .i64 0], .int .i64 3]) (by simp [results, Try.results21, go_sem, g1_0_0, g1_0_1, g1_0_2, g1_0_3, g1_0_4]) rfl ?_
      exact ⟨rfl, by go_grown⟩
  · have hrb : (r == 4611686018427387904) = false := by simp [hr]
    by_cases h : Ok ⟨r, p, s, 0, t⟩
    · have HV := Lib.hid (fun w => valid_yes _ w h)
      have HF := Lib.hid (show bnew r p s t = (⟨r, p, s, s * p, t⟩, 0) by unfold bnew; rw [if_neg hr, if_pos h])
      obtain ⟨o1, o2, o3, o4, o5, o6, o7, o8, o9, o10, o11⟩ := ok_shut _ h hr
      obtain ⟨m0, m1⟩ := mul_bd o7 o8 (show 0 ≤ p by simp only at o1; omega) o2
      obtain ⟨q, hq⟩ : ∃ q, s * p = q := ⟨_, rfl⟩
      simp only at m0 m1
      rw [hq] at m0 m1 HF
      clear h hr o1 o2 o3 o4 o5 o6 o7 o8 o9 o10 o11
      go_enter Try.func21, Try.ntmps21
      unfold Bk.v at *
      go_wp2_with (first | (go_at_call 30; go_in) | (go_at_call 29; go_in))
      refine (HV.out _).mono ?_
      rintro e w1 ⟨rfl, hb1⟩
      obtain ⟨hc1, hf1⟩ := bcell hb1
      have hz1 := hb1.size
      simp at hz1
      have HB1 : Below w.heap.size w w1 := Below.trans (by go_grown) (hb1.mono (by first | (simp; done) | (simp; omega)))
      clear hb1
      have g1_0_0 : w1.cell? ⟨w.heap.size, 0, none⟩ = some (.int .i64 0) := by rw [hc1 _ _ (by first | (simp; done) | (simp; omega))]; simp [go_sem]
      have g1_0_1 : w1.cell? ⟨w.heap.size, 1, none⟩ = some (.int .i64 0) := by rw [hc1 _ _ (by first | (simp; done) | (simp; omega))]; simp [go_sem]
      have g1_0_2 : w1.cell? ⟨w.heap.size, 2, none⟩ = some (.int .i64 0) := by rw [hc1 _ _ (by first | (simp; done) | (simp; omega))]; simp [go_sem]
      have g1_0_3 : w1.cell? ⟨w.heap.size, 3, none⟩ = some (.int .i64 0) := by rw [hc1 _ _ (by first | (simp; done) | (simp; omega))]; simp [go_sem]
      have g1_0_4 : w1.cell? ⟨w.heap.size, 4, none⟩ = some (.int .i64 0) := by rw [hc1 _ _ (by first | (simp; done) | (simp; omega))]; simp [go_sem]
      have k1_0_0 : w1.frozen? ⟨w.heap.size, 0, none⟩ = false := by rw [hf1 _ _ (by first | (simp; done) | (simp; omega))]; simp [go_sem]
      have k1_0_1 : w1.frozen? ⟨w.heap.size, 1, none⟩ = false := by rw [hf1 _ _ (by first | (simp; done) | (simp; omega))]; simp [go_sem]
      have k1_0_2 : w1.frozen? ⟨w.heap.size, 2, none⟩ = false := by rw [hf1 _ _ (by first | (simp; done) | (simp; omega))]; simp [go_sem]
      have k1_0_3 : w1.frozen? ⟨w.heap.size, 3, none⟩ = false := by rw [hf1 _ _ (by first | (simp; done) | (simp; omega))]; simp [go_sem]
      have k1_0_4 : w1.frozen? ⟨w.heap.size, 4, none⟩ = false := by rw [hf1 _ _ (by first | (simp; done) | (simp; omega))]; simp [go_sem]
      have y1_0 : w.heap.size < w1.heap.size := by omega
      have g1_1_0 : w1.cell? ⟨w.heap.size + 1, 0, none⟩ = some (.int .i64 r) := by rw [hc1 _ _ (by first | (simp; done) | (simp; omega))]; simp [go_sem]
      have g1_1_1 : w1.cell? ⟨w.heap.size + 1, 1, none⟩ = some (.int .i64 p) := by rw [hc1 _ _ (by first | (simp; done) | (simp; omega))]; simp [go_sem]
      have g1_1_2 : w1.cell? ⟨w.heap.size + 1, 2, none⟩ = some (.int .i64 s) := by rw [hc1 _ _ (by first | (simp; done) | (simp; omega))]; simp [go_sem]
      have g1_1_3 : w1.cell? ⟨w.heap.size + 1, 3, none⟩ = some (.int .i64 0) := by rw [hc1 _ _ (by first | (simp; done) | (simp; omega))]; simp [go_sem]
      have g1_1_4 : w1.cell? ⟨w.heap.size + 1, 4, none⟩ = some (.int .i64 t) := by rw [hc1 _ _ (by first | (simp; done) | (simp; omega))]; simp [go_sem]
      have k1_1_0 : w1.frozen? ⟨w.heap.size + 1, 0, none⟩ = false := by rw [hf1 _ _ (by first | (simp; done) | (simp; omega))]; simp [go_sem]
      have k1_1_1 : w1.frozen? ⟨w.heap.size + 1, 1, none⟩ = false := by rw [hf1 _ _ (by first | (simp; done) | (simp; omega))]; simp [go_sem]
      have k1_1_2 : w1.frozen? ⟨w.heap.size + 1, 2, none⟩ = false := by rw [hf1 _ _ (by first | (simp; done) | (simp; omega))]; simp [go_sem]
      have k1_1_3 : w1.frozen? ⟨w.heap.size + 1, 3, none⟩ = false := by rw [hf1 _ _ (by first | (simp; done) | (simp; omega))]; simp [go_sem]
      have k1_1_4 : w1.frozen? ⟨w.heap.size + 1, 4, none⟩ = false := by rw [hf1 _ _ (by first | (simp; done) | (simp; omega))]; simp [go_sem]
      have y1_1 : w.heap.size + 1 < w1.heap.size := by omega
      clear hc1 hf1 hz1
      go_wp2
      rw [HF.out]
      refine bodyPost_ret (v := .tuple #[.agg #[.int .i64 r, .int .i64 p, .int .i64 s, .int .i64 q, .int .i64 t], .int .i64 0]) (by simp [results, Try.results21, go_sem, g1_0_0, g1_0_1, g1_0_2, g1_0_3, g1_0_4]) rfl ?_
      exact ⟨rfl, by go_grown⟩
    · have HV := Lib.hid (fun w => valid_no _ w h)
      have HF := Lib.hid (show bnew r p s t = (zero, 3) by unfold bnew; rw [if_neg hr, if_neg h])
      clear h hr
      go_enter Try.func21, Try.ntmps21
      unfold Bk.v zero at *
      go_wp2_with (first | (go_at_call 30; go_in) | (go_at_call 29; go_in))
      refine (HV.out _).mono ?_
      rintro e w1 ⟨rfl, hb1⟩
      obtain ⟨hc1, hf1⟩ := bcell hb1
      have hz1 := hb1.size
      simp at hz1
      have HB1 : Below w.heap.size w w1 := Below.trans (by go_grown) (hb1.mono (by first | (simp; done) | (simp; omega)))
      clear hb1
      have g1_0_0 : w1.cell? ⟨w.heap.size, 0, none⟩ = some (.int .i64 0) := by rw [hc1 _ _ (by first | (simp; done) | (simp; omega))]; simp [go_sem]
      have g1_0_1 : w1.cell? ⟨w.heap.size, 1, none⟩ = some (.int .i64 0) := by rw [hc1 _ _ (by first | (simp; done) | (simp; omega))]; simp [go_sem]
      have g1_0_2 : w1.cell? ⟨w.heap.size, 2, none⟩ = some (.int .i64 0) := by rw [hc1 _ _ (by first | (simp; done) | (simp; omega))]; simp [go_sem]
      have g1_0_3 : w1.cell? ⟨w.heap.size, 3, none⟩ = some (.int .i64 0) := by rw [hc1 _ _ (by first | (simp; done) | (simp; omega))]; simp [go_sem]
      have g1_0_4 : w1.cell? ⟨w.heap.size, 4, none⟩ = some (.int .i64 0) := by rw [hc1 _ _ (by first | (simp; done) | (simp; omega))]; simp [go_sem]
      have k1_0_0 : w1.frozen? ⟨w.heap.size, 0, none⟩ = false := by rw [hf1 _ _ (by first | (simp; done) | (simp; omega))]; simp [go_sem]
      have k1_0_1 : w1.frozen? ⟨w.heap.size, 1, none⟩ = false := by rw [hf1 _ _ (by first | (simp; done) | (simp; omega))]; simp [go_sem]
      have k1_0_2 : w1.frozen? ⟨w.heap.size, 2, none⟩ = false := by rw [hf1 _ _ (by first | (simp; done) | (simp; omega))]; simp [go_sem]
      have k1_0_3 : w1.frozen? ⟨w.heap.size, 3, none⟩ = false := by rw [hf1 _ _ (by first | (simp; done) | (simp; omega))]; simp [go_sem]
      have k1_0_4 : w1.frozen? ⟨w.heap.size, 4, none⟩ = false := by rw [hf1 _ _ (by first | (simp; done) | (simp; omega))]; simp [go_sem]
      have y1_0 : w.heap.size < w1.heap.size := by omega
      clear hc1 hf1 hz1
      go_wp2
      rw [HF.out]
      refine bodyPost_ret (v := .tuple #[.agg #[.int .i64 0, .int .i64 0, .int .i64 0, .int .i64 0, .int .i64 0], .int .i64 3]) (by simp [results, Try.results21, go_sem, g1_0_0, g1_0_1, g1_0_2, g1_0_3, g1_0_4]) rfl ?_
      exact ⟨rfl, by go_grown⟩

end Go.Proofs.Ytcfkmkabjalgjac
