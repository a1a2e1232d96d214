/- Contracts of the reference's buckets: Tokens, New. -/
import Derived.Test.YtcfkmkabjalgjacBkt
namespace Go.Proofs.Ytcfkmkabjalgjac
open Go.RowKit
set_option linter.unusedVariables false
set_option linter.unusedSimpArgs false

theorem bne_of {a b : Int} {x : Bool} (h : (a == b) = x) : (a != b) = !x := by simp only [bne, h]
theorem ok_level (r p s t : Int) (hp : 1 ≤ p) (hs : 0 ≤ s) (hr : ¬ r = 4611686018427387904) : Ok ⟨r, p, s, s * p, t⟩ ↔ Ok ⟨r, p, s, 0, t⟩ := by
  have := Int.mul_nonneg hs (show 0 ≤ p by omega)
  unfold Ok; simp only [hr, if_false]; omega
theorem not_ok_p (r p s t : Int) (hp : p < 1 ∨ 1048576 < p) : ¬ Ok ⟨r, p, s, 0, t⟩ := by
  unfold Ok; intro h; simp only at h; omega
theorem not_ok_s (r p s t : Int) (hr : ¬ r = 4611686018427387904) (hs : s < 0 ∨ 1073741824 < s) : ¬ Ok ⟨r, p, s, 0, t⟩ := by
  unfold Ok; simp only [hr, if_false]; intro h; omega

set_option maxHeartbeats 2000000 in
theorem rtok_any (b : Bk) (w : World) :
    Calls Try.prog 24 #[b.v] w fun e w' => e = .returned (.int .i64 (btok b)) ∧ Below w.heap.size w w' := by
  by_cases h : Ok b
  · have HV := Lib.hid (fun w => rvalid_yes b w h)
    by_cases hr : b.r = 4611686018427387904
    · have HF := Lib.hid (show btok b = 1073741824 by unfold btok; rw [if_neg (by simpa using h), if_pos hr])
      have hrb : (b.r == 4611686018427387904) = true := by simp [hr]
      clear h hr
      unfold Bk.v at *
      go_enter Try.func24, Try.ntmps24
      go_wp2_with (first | (go_at_call 30; go_in) | (go_at_call 29; go_in))
      refine (HV.out _).mono ?_
      rintro e w1 ⟨rfl, hb1⟩
      obtain ⟨hc1, hf1⟩ := bcell hb1
      have hz1 := hb1.size
      try simp at hz1
      have HB1 : Below w.heap.size w w1 := Below.trans (by go_grown) (hb1.mono (by first | omega | (simp; done) | (simp; omega)))
      clear hb1
      have g1_0_0 : w1.cell? ⟨w.heap.size, 0, none⟩ = some (.int .i64 b.r) := by rw [hc1 _ _ (by first | omega | (simp; done) | (simp; omega))]; simp [go_sem]
      have g1_0_1 : w1.cell? ⟨w.heap.size, 1, none⟩ = some (.int .i64 b.p) := by rw [hc1 _ _ (by first | omega | (simp; done) | (simp; omega))]; simp [go_sem]
      have g1_0_2 : w1.cell? ⟨w.heap.size, 2, none⟩ = some (.int .i64 b.s) := by rw [hc1 _ _ (by first | omega | (simp; done) | (simp; omega))]; simp [go_sem]
      have g1_0_3 : w1.cell? ⟨w.heap.size, 3, none⟩ = some (.int .i64 b.l) := by rw [hc1 _ _ (by first | omega | (simp; done) | (simp; omega))]; simp [go_sem]
      have g1_0_4 : w1.cell? ⟨w.heap.size, 4, none⟩ = some (.int .i64 b.t) := by rw [hc1 _ _ (by first | omega | (simp; done) | (simp; omega))]; simp [go_sem]
      have k1_0_0 : w1.frozen? ⟨w.heap.size, 0, none⟩ = false := by rw [hf1 _ _ (by first | omega | (simp; done) | (simp; omega))]; simp [go_sem]
      have k1_0_1 : w1.frozen? ⟨w.heap.size, 1, none⟩ = false := by rw [hf1 _ _ (by first | omega | (simp; done) | (simp; omega))]; simp [go_sem]
      have k1_0_2 : w1.frozen? ⟨w.heap.size, 2, none⟩ = false := by rw [hf1 _ _ (by first | omega | (simp; done) | (simp; omega))]; simp [go_sem]
      have k1_0_3 : w1.frozen? ⟨w.heap.size, 3, none⟩ = false := by rw [hf1 _ _ (by first | omega | (simp; done) | (simp; omega))]; simp [go_sem]
      have k1_0_4 : w1.frozen? ⟨w.heap.size, 4, none⟩ = false := by rw [hf1 _ _ (by first | omega | (simp; done) | (simp; omega))]; simp [go_sem]
      have y1_0 : w.heap.size < w1.heap.size := by omega
      clear hc1 hf1 hz1
      go_wp2
      go_ret
      exact ⟨ret_i (by rw [HF.out]), by first | (go_grown; done) | (refine below_drewN ?_ _; go_grown)⟩
    · have HF := Lib.hid (show btok b = b.l / b.p by unfold btok; rw [if_neg (by simpa using h), if_neg hr])
      have hrb : (b.r == 4611686018427387904) = false := by simp [hr]
      obtain ⟨o1, o2, o3, o4, o5, o6, o7, o8, o9, o10, o11⟩ := ok_shut b h hr
      have hp0 : (b.p == 0) = false := by simp; omega
      clear h hr o10
      unfold Bk.v at *
      go_enter Try.func24, Try.ntmps24
      go_wp2_with (first | (go_at_call 30; go_in) | (go_at_call 29; go_in))
      refine (HV.out _).mono ?_
      rintro e w1 ⟨rfl, hb1⟩
      obtain ⟨hc1, hf1⟩ := bcell hb1
      have hz1 := hb1.size
      try simp at hz1
      have HB1 : Below w.heap.size w w1 := Below.trans (by go_grown) (hb1.mono (by first | omega | (simp; done) | (simp; omega)))
      clear hb1
      have g1_0_0 : w1.cell? ⟨w.heap.size, 0, none⟩ = some (.int .i64 b.r) := by rw [hc1 _ _ (by first | omega | (simp; done) | (simp; omega))]; simp [go_sem]
      have g1_0_1 : w1.cell? ⟨w.heap.size, 1, none⟩ = some (.int .i64 b.p) := by rw [hc1 _ _ (by first | omega | (simp; done) | (simp; omega))]; simp [go_sem]
      have g1_0_2 : w1.cell? ⟨w.heap.size, 2, none⟩ = some (.int .i64 b.s) := by rw [hc1 _ _ (by first | omega | (simp; done) | (simp; omega))]; simp [go_sem]
      have g1_0_3 : w1.cell? ⟨w.heap.size, 3, none⟩ = some (.int .i64 b.l) := by rw [hc1 _ _ (by first | omega | (simp; done) | (simp; omega))]; simp [go_sem]
      have g1_0_4 : w1.cell? ⟨w.heap.size, 4, none⟩ = some (.int .i64 b.t) := by rw [hc1 _ _ (by first | omega | (simp; done) | (simp; omega))]; simp [go_sem]
      have k1_0_0 : w1.frozen? ⟨w.heap.size, 0, none⟩ = false := by rw [hf1 _ _ (by first | omega | (simp; done) | (simp; omega))]; simp [go_sem]
      have k1_0_1 : w1.frozen? ⟨w.heap.size, 1, none⟩ = false := by rw [hf1 _ _ (by first | omega | (simp; done) | (simp; omega))]; simp [go_sem]
      have k1_0_2 : w1.frozen? ⟨w.heap.size, 2, none⟩ = false := by rw [hf1 _ _ (by first | omega | (simp; done) | (simp; omega))]; simp [go_sem]
      have k1_0_3 : w1.frozen? ⟨w.heap.size, 3, none⟩ = false := by rw [hf1 _ _ (by first | omega | (simp; done) | (simp; omega))]; simp [go_sem]
      have k1_0_4 : w1.frozen? ⟨w.heap.size, 4, none⟩ = false := by rw [hf1 _ _ (by first | omega | (simp; done) | (simp; omega))]; simp [go_sem]
      have y1_0 : w.heap.size < w1.heap.size := by omega
      clear hc1 hf1 hz1
      go_wp2
      go_ret
      exact ⟨ret_i (by rw [HF.out]), by first | (go_grown; done) | (refine below_drewN ?_ _; go_grown)⟩
  · have HV := Lib.hid (fun w => rvalid_no b w h)
    have HF := Lib.hid (show btok b = 0 by unfold btok; rw [if_pos (by simpa using h)])
    clear h
    unfold Bk.v at *
    go_enter Try.func24, Try.ntmps24
    go_wp2_with (first | (go_at_call 30; go_in) | (go_at_call 29; go_in))
    refine (HV.out _).mono ?_
    rintro e w1 ⟨rfl, hb1⟩
    obtain ⟨hc1, hf1⟩ := bcell hb1
    have hz1 := hb1.size
    try simp at hz1
    have HB1 : Below w.heap.size w w1 := Below.trans (by go_grown) (hb1.mono (by first | omega | (simp; done) | (simp; omega)))
    clear hb1
    have g1_0_0 : w1.cell? ⟨w.heap.size, 0, none⟩ = some (.int .i64 b.r) := by rw [hc1 _ _ (by first | omega | (simp; done) | (simp; omega))]; simp [go_sem]
    have g1_0_1 : w1.cell? ⟨w.heap.size, 1, none⟩ = some (.int .i64 b.p) := by rw [hc1 _ _ (by first | omega | (simp; done) | (simp; omega))]; simp [go_sem]
    have g1_0_2 : w1.cell? ⟨w.heap.size, 2, none⟩ = some (.int .i64 b.s) := by rw [hc1 _ _ (by first | omega | (simp; done) | (simp; omega))]; simp [go_sem]
    have g1_0_3 : w1.cell? ⟨w.heap.size, 3, none⟩ = some (.int .i64 b.l) := by rw [hc1 _ _ (by first | omega | (simp; done) | (simp; omega))]; simp [go_sem]
    have g1_0_4 : w1.cell? ⟨w.heap.size, 4, none⟩ = some (.int .i64 b.t) := by rw [hc1 _ _ (by first | omega | (simp; done) | (simp; omega))]; simp [go_sem]
    have k1_0_0 : w1.frozen? ⟨w.heap.size, 0, none⟩ = false := by rw [hf1 _ _ (by first | omega | (simp; done) | (simp; omega))]; simp [go_sem]
    have k1_0_1 : w1.frozen? ⟨w.heap.size, 1, none⟩ = false := by rw [hf1 _ _ (by first | omega | (simp; done) | (simp; omega))]; simp [go_sem]
    have k1_0_2 : w1.frozen? ⟨w.heap.size, 2, none⟩ = false := by rw [hf1 _ _ (by first | omega | (simp; done) | (simp; omega))]; simp [go_sem]
    have k1_0_3 : w1.frozen? ⟨w.heap.size, 3, none⟩ = false := by rw [hf1 _ _ (by first | omega | (simp; done) | (simp; omega))]; simp [go_sem]
    have k1_0_4 : w1.frozen? ⟨w.heap.size, 4, none⟩ = false := by rw [hf1 _ _ (by first | omega | (simp; done) | (simp; omega))]; simp [go_sem]
    have y1_0 : w.heap.size < w1.heap.size := by omega
    clear hc1 hf1 hz1
    go_wp2
    go_ret
    exact ⟨ret_i (by rw [HF.out]), by first | (go_grown; done) | (refine below_drewN ?_ _; go_grown)⟩

set_option maxHeartbeats 2000000 in
theorem rnew_any (r p s t : Int) (w : World) :
    Calls Try.prog 22 #[.int .i64 r, .int .i64 p, .int .i64 s, .int .i64 t] w fun e w' => e = .returned (.tuple #[(bnew r p s t).1.v, .int .i64 (bnew r p s t).2]) ∧ Below w.heap.size w w' := by
  by_cases hr : r = 4611686018427387904
  · have hrb : (r == 4611686018427387904) = true := by simp [hr]
    by_cases hp : p < 1
    · have HF := Lib.hid (show bnew r p s t = (zero, 3) by unfold bnew; rw [if_pos hr, if_neg (not_ok_p r p 0 t (.inl hp))])
      clear hr
      go_enter Try.func22, Try.ntmps22
      unfold Bk.v zero at *
      go_wp2
      rw [HF.out]
      refine bodyPost_ret (v := .tuple #[.agg #[.int .i64 0, .int .i64 0, .int .i64 0, .int .i64 0, .int .i64 0], .int .i64 3]) (by simp [results, Try.results22, go_sem]) rfl ?_
      exact ⟨rfl, by go_grown⟩
    · by_cases hp2 : 1048576 < p
      · have HF := Lib.hid (show bnew r p s t = (zero, 3) by unfold bnew; rw [if_pos hr, if_neg (not_ok_p r p 0 t (.inr hp2))])
        have hp3 : decide (p ≤ 1048576) = false := by simp; omega
        clear hr
        go_enter Try.func22, Try.ntmps22
        unfold Bk.v zero at *
        go_wp2
        rw [HF.out]
        refine bodyPost_ret (v := .tuple #[.agg #[.int .i64 0, .int .i64 0, .int .i64 0, .int .i64 0, .int .i64 0], .int .i64 3]) (by simp [results, Try.results22, go_sem]) rfl ?_
        exact ⟨rfl, by go_grown⟩
      · have p1 : 1 ≤ p := by omega
        have p2 : p ≤ 1048576 := by omega
        by_cases h : Ok ⟨r, p, 0, 0, t⟩
        · have HV := Lib.hid (fun w => rvalid_yes _ w h)
          have HF := Lib.hid (show bnew r p s t = (⟨r, p, 0, 0, t⟩, 0) by unfold bnew; rw [if_pos hr, if_pos h]; simp)
          clear h hr hp hp2
          go_enter Try.func22, Try.ntmps22
          unfold Bk.v at *
          go_wp2_with (first | (go_at_call 30; go_in) | (go_at_call 29; go_in))
          refine (HV.out _).mono ?_
          rintro e w1 ⟨rfl, hb1⟩
          obtain ⟨hc1, hf1⟩ := bcell hb1
          have hz1 := hb1.size
          try simp at hz1
          have HB1 : Below w.heap.size w w1 := Below.trans (by go_grown) (hb1.mono (by first | omega | (simp; done) | (simp; omega)))
          clear hb1
          have g1_0_0 : w1.cell? ⟨w.heap.size, 0, none⟩ = some (.int .i64 0) := by rw [hc1 _ _ (by first | omega | (simp; done) | (simp; omega))]; simp [go_sem]
          have g1_0_1 : w1.cell? ⟨w.heap.size, 1, none⟩ = some (.int .i64 0) := by rw [hc1 _ _ (by first | omega | (simp; done) | (simp; omega))]; simp [go_sem]
          have g1_0_2 : w1.cell? ⟨w.heap.size, 2, none⟩ = some (.int .i64 0) := by rw [hc1 _ _ (by first | omega | (simp; done) | (simp; omega))]; simp [go_sem]
          have g1_0_3 : w1.cell? ⟨w.heap.size, 3, none⟩ = some (.int .i64 0) := by rw [hc1 _ _ (by first | omega | (simp; done) | (simp; omega))]; simp [go_sem]
          have g1_0_4 : w1.cell? ⟨w.heap.size, 4, none⟩ = some (.int .i64 0) := by rw [hc1 _ _ (by first | omega | (simp; done) | (simp; omega))]; simp [go_sem]
          have k1_0_0 : w1.frozen? ⟨w.heap.size, 0, none⟩ = false := by rw [hf1 _ _ (by first | omega | (simp; done) | (simp; omega))]; simp [go_sem]
          have k1_0_1 : w1.frozen? ⟨w.heap.size, 1, none⟩ = false := by rw [hf1 _ _ (by first | omega | (simp; done) | (simp; omega))]; simp [go_sem]
          have k1_0_2 : w1.frozen? ⟨w.heap.size, 2, none⟩ = false := by rw [hf1 _ _ (by first | omega | (simp; done) | (simp; omega))]; simp [go_sem]
          have k1_0_3 : w1.frozen? ⟨w.heap.size, 3, none⟩ = false := by rw [hf1 _ _ (by first | omega | (simp; done) | (simp; omega))]; simp [go_sem]
          have k1_0_4 : w1.frozen? ⟨w.heap.size, 4, none⟩ = false := by rw [hf1 _ _ (by first | omega | (simp; done) | (simp; omega))]; simp [go_sem]
          have y1_0 : w.heap.size < w1.heap.size := by omega
          have g1_1_0 : w1.cell? ⟨w.heap.size + 1, 0, none⟩ = some (.int .i64 r) := by rw [hc1 _ _ (by first | omega | (simp; done) | (simp; omega))]; simp [go_sem]
          have g1_1_1 : w1.cell? ⟨w.heap.size + 1, 1, none⟩ = some (.int .i64 p) := by rw [hc1 _ _ (by first | omega | (simp; done) | (simp; omega))]; simp [go_sem]
          have g1_1_2 : w1.cell? ⟨w.heap.size + 1, 2, none⟩ = some (.int .i64 0) := by rw [hc1 _ _ (by first | omega | (simp; done) | (simp; omega))]; simp [go_sem]
          have g1_1_3 : w1.cell? ⟨w.heap.size + 1, 3, none⟩ = some (.int .i64 0) := by rw [hc1 _ _ (by first | omega | (simp; done) | (simp; omega))]; simp [go_sem]
          have g1_1_4 : w1.cell? ⟨w.heap.size + 1, 4, none⟩ = some (.int .i64 t) := by rw [hc1 _ _ (by first | omega | (simp; done) | (simp; omega))]; simp [go_sem]
          have k1_1_0 : w1.frozen? ⟨w.heap.size + 1, 0, none⟩ = false := by rw [hf1 _ _ (by first | omega | (simp; done) | (simp; omega))]; simp [go_sem]
          have k1_1_1 : w1.frozen? ⟨w.heap.size + 1, 1, none⟩ = false := by rw [hf1 _ _ (by first | omega | (simp; done) | (simp; omega))]; simp [go_sem]
          have k1_1_2 : w1.frozen? ⟨w.heap.size + 1, 2, none⟩ = false := by rw [hf1 _ _ (by first | omega | (simp; done) | (simp; omega))]; simp [go_sem]
          have k1_1_3 : w1.frozen? ⟨w.heap.size + 1, 3, none⟩ = false := by rw [hf1 _ _ (by first | omega | (simp; done) | (simp; omega))]; simp [go_sem]
          have k1_1_4 : w1.frozen? ⟨w.heap.size + 1, 4, none⟩ = false := by rw [hf1 _ _ (by first | omega | (simp; done) | (simp; omega))]; simp [go_sem]
          have y1_1 : w.heap.size + 1 < w1.heap.size := by omega
          clear hc1 hf1 hz1
          go_wp2
          rw [HF.out]
          refine bodyPost_ret (v := .tuple #[.agg #[.int .i64 r, .int .i64 p, .int .i64 0, .int .i64 0, .int .i64 t], .int .i64 0]) (by simp [results, Try.results22, go_sem, g1_0_0, g1_0_1, g1_0_2, g1_0_3, g1_0_4]) rfl ?_
          exact ⟨rfl, by first | (go_grown; done) | (refine below_drewN ?_ _; go_grown)⟩
        · have HV := Lib.hid (fun w => rvalid_no _ w h)
          have HF := Lib.hid (show bnew r p s t = (zero, 3) by unfold bnew; rw [if_pos hr, if_neg h])
          clear h hr hp hp2
          go_enter Try.func22, Try.ntmps22
          unfold Bk.v zero at *
          go_wp2_with (first | (go_at_call 30; go_in) | (go_at_call 29; go_in))
          refine (HV.out _).mono ?_
          rintro e w1 ⟨rfl, hb1⟩
          obtain ⟨hc1, hf1⟩ := bcell hb1
          have hz1 := hb1.size
          try simp at hz1
          have HB1 : Below w.heap.size w w1 := Below.trans (by go_grown) (hb1.mono (by first | omega | (simp; done) | (simp; omega)))
          clear hb1
          have g1_0_0 : w1.cell? ⟨w.heap.size, 0, none⟩ = some (.int .i64 0) := by rw [hc1 _ _ (by first | omega | (simp; done) | (simp; omega))]; simp [go_sem]
          have g1_0_1 : w1.cell? ⟨w.heap.size, 1, none⟩ = some (.int .i64 0) := by rw [hc1 _ _ (by first | omega | (simp; done) | (simp; omega))]; simp [go_sem]
          have g1_0_2 : w1.cell? ⟨w.heap.size, 2, none⟩ = some (.int .i64 0) := by rw [hc1 _ _ (by first | omega | (simp; done) | (simp; omega))]; simp [go_sem]
          have g1_0_3 : w1.cell? ⟨w.heap.size, 3, none⟩ = some (.int .i64 0) := by rw [hc1 _ _ (by first | omega | (simp; done) | (simp; omega))]; simp [go_sem]
          have g1_0_4 : w1.cell? ⟨w.heap.size, 4, none⟩ = some (.int .i64 0) := by rw [hc1 _ _ (by first | omega | (simp; done) | (simp; omega))]; simp [go_sem]
          have k1_0_0 : w1.frozen? ⟨w.heap.size, 0, none⟩ = false := by rw [hf1 _ _ (by first | omega | (simp; done) | (simp; omega))]; simp [go_sem]
          have k1_0_1 : w1.frozen? ⟨w.heap.size, 1, none⟩ = false := by rw [hf1 _ _ (by first | omega | (simp; done) | (simp; omega))]; simp [go_sem]
          have k1_0_2 : w1.frozen? ⟨w.heap.size, 2, none⟩ = false := by rw [hf1 _ _ (by first | omega | (simp; done) | (simp; omega))]; simp [go_sem]
          have k1_0_3 : w1.frozen? ⟨w.heap.size, 3, none⟩ = false := by rw [hf1 _ _ (by first | omega | (simp; done) | (simp; omega))]; simp [go_sem]
          have k1_0_4 : w1.frozen? ⟨w.heap.size, 4, none⟩ = false := by rw [hf1 _ _ (by first | omega | (simp; done) | (simp; omega))]; simp [go_sem]
          have y1_0 : w.heap.size < w1.heap.size := by omega
          clear hc1 hf1 hz1
          go_wp2
          rw [HF.out]
          refine bodyPost_ret (v := .tuple #[.agg #[.int .i64 0, .int .i64 0, .int .i64 0, .int .i64 0, .int .i64 0], .int .i64 3]) (by simp [results, Try.results22, go_sem, g1_0_0, g1_0_1, g1_0_2, g1_0_3, g1_0_4]) rfl ?_
          exact ⟨rfl, by first | (go_grown; done) | (refine below_drewN ?_ _; go_grown)⟩
  · have hrb : (r == 4611686018427387904) = false := by simp [hr]
    by_cases hp : p < 1
    · have HF := Lib.hid (show bnew r p s t = (zero, 3) by unfold bnew; rw [if_neg hr, if_neg (not_ok_p r p s t (.inl hp))])
      clear hr
      go_enter Try.func22, Try.ntmps22
      unfold Bk.v zero at *
      go_wp2
      rw [HF.out]
      refine bodyPost_ret (v := .tuple #[.agg #[.int .i64 0, .int .i64 0, .int .i64 0, .int .i64 0, .int .i64 0], .int .i64 3]) (by simp [results, Try.results22, go_sem]) rfl ?_
      exact ⟨rfl, by go_grown⟩
    · by_cases hp2 : 1048576 < p
      · have HF := Lib.hid (show bnew r p s t = (zero, 3) by unfold bnew; rw [if_neg hr, if_neg (not_ok_p r p s t (.inr hp2))])
        have hp3 : decide (p ≤ 1048576) = false := by simp; omega
        clear hr
        go_enter Try.func22, Try.ntmps22
        unfold Bk.v zero at *
        go_wp2
        rw [HF.out]
        refine bodyPost_ret (v := .tuple #[.agg #[.int .i64 0, .int .i64 0, .int .i64 0, .int .i64 0, .int .i64 0], .int .i64 3]) (by simp [results, Try.results22, go_sem]) rfl ?_
        exact ⟨rfl, by go_grown⟩
      · have p1 : 1 ≤ p := by omega
        have p2 : p ≤ 1048576 := by omega
        by_cases hs : s < 0
        · have HF := Lib.hid (show bnew r p s t = (zero, 3) by unfold bnew; rw [if_neg hr, if_neg (not_ok_s r p s t hr (.inl hs))])
          clear hr hp hp2
          go_enter Try.func22, Try.ntmps22
          unfold Bk.v zero at *
          go_wp2
          rw [HF.out]
          refine bodyPost_ret (v := .tuple #[.agg #[.int .i64 0, .int .i64 0, .int .i64 0, .int .i64 0, .int .i64 0], .int .i64 3]) (by simp [results, Try.results22, go_sem]) rfl ?_
          exact ⟨rfl, by go_grown⟩
        · by_cases hs2 : 1073741824 < s
          · have HF := Lib.hid (show bnew r p s t = (zero, 3) by unfold bnew; rw [if_neg hr, if_neg (not_ok_s r p s t hr (.inr hs2))])
            have hs3 : decide (s ≤ 1073741824) = false := by simp; omega
            clear hr hp hp2
            go_enter Try.func22, Try.ntmps22
            unfold Bk.v zero at *
            go_wp2
            rw [HF.out]
            refine bodyPost_ret (v := .tuple #[.agg #[.int .i64 0, .int .i64 0, .int .i64 0, .int .i64 0, .int .i64 0], .int .i64 3]) (by simp [results, Try.results22, go_sem]) rfl ?_
            exact ⟨rfl, by go_grown⟩
          · have s1 : 0 ≤ s := by omega
            have s2 : s ≤ 1073741824 := by omega
            have hiff := ok_level r p s t p1 s1 hr
            obtain ⟨m0, m1⟩ := mul_bd s1 s2 (show 0 ≤ p by omega) p2
            obtain ⟨q, hq⟩ : ∃ q, s * p = q := ⟨_, rfl⟩
            rw [hq] at m0 m1 hiff
            by_cases h : Ok ⟨r, p, s, 0, t⟩
            · have HV := Lib.hid (fun w => rvalid_yes ⟨r, p, s, q, t⟩ w (hiff.2 h))
              have HF := Lib.hid (show bnew r p s t = (⟨r, p, s, q, t⟩, 0) by unfold bnew; rw [if_neg hr, if_pos h, hq])
              clear h hr hp hp2 hs hs2 hiff
              go_enter Try.func22, Try.ntmps22
              unfold Bk.v at *
              go_wp2_with (first | (go_at_call 30; go_in) | (go_at_call 29; go_in))
              refine (HV.out _).mono ?_
              rintro e w1 ⟨rfl, hb1⟩
              obtain ⟨hc1, hf1⟩ := bcell hb1
              have hz1 := hb1.size
              try simp at hz1
              have HB1 : Below w.heap.size w w1 := Below.trans (by go_grown) (hb1.mono (by first | omega | (simp; done) | (simp; omega)))
              clear hb1
              have g1_0_0 : w1.cell? ⟨w.heap.size, 0, none⟩ = some (.int .i64 0) := by rw [hc1 _ _ (by first | omega | (simp; done) | (simp; omega))]; simp [go_sem]
              have g1_0_1 : w1.cell? ⟨w.heap.size, 1, none⟩ = some (.int .i64 0) := by rw [hc1 _ _ (by first | omega | (simp; done) | (simp; omega))]; simp [go_sem]
              have g1_0_2 : w1.cell? ⟨w.heap.size, 2, none⟩ = some (.int .i64 0) := by rw [hc1 _ _ (by first | omega | (simp; done) | (simp; omega))]; simp [go_sem]
              have g1_0_3 : w1.cell? ⟨w.heap.size, 3, none⟩ = some (.int .i64 0) := by rw [hc1 _ _ (by first | omega | (simp; done) | (simp; omega))]; simp [go_sem]
              have g1_0_4 : w1.cell? ⟨w.heap.size, 4, none⟩ = some (.int .i64 0) := by rw [hc1 _ _ (by first | omega | (simp; done) | (simp; omega))]; simp [go_sem]
              have k1_0_0 : w1.frozen? ⟨w.heap.size, 0, none⟩ = false := by rw [hf1 _ _ (by first | omega | (simp; done) | (simp; omega))]; simp [go_sem]
              have k1_0_1 : w1.frozen? ⟨w.heap.size, 1, none⟩ = false := by rw [hf1 _ _ (by first | omega | (simp; done) | (simp; omega))]; simp [go_sem]
              have k1_0_2 : w1.frozen? ⟨w.heap.size, 2, none⟩ = false := by rw [hf1 _ _ (by first | omega | (simp; done) | (simp; omega))]; simp [go_sem]
              have k1_0_3 : w1.frozen? ⟨w.heap.size, 3, none⟩ = false := by rw [hf1 _ _ (by first | omega | (simp; done) | (simp; omega))]; simp [go_sem]
              have k1_0_4 : w1.frozen? ⟨w.heap.size, 4, none⟩ = false := by rw [hf1 _ _ (by first | omega | (simp; done) | (simp; omega))]; simp [go_sem]
              have y1_0 : w.heap.size < w1.heap.size := by omega
              have g1_1_0 : w1.cell? ⟨w.heap.size + 1, 0, none⟩ = some (.int .i64 r) := by rw [hc1 _ _ (by first | omega | (simp; done) | (simp; omega))]; simp [go_sem]
              have g1_1_1 : w1.cell? ⟨w.heap.size + 1, 1, none⟩ = some (.int .i64 p) := by rw [hc1 _ _ (by first | omega | (simp; done) | (simp; omega))]; simp [go_sem]
              have g1_1_2 : w1.cell? ⟨w.heap.size + 1, 2, none⟩ = some (.int .i64 s) := by rw [hc1 _ _ (by first | omega | (simp; done) | (simp; omega))]; simp [go_sem]
              have g1_1_3 : w1.cell? ⟨w.heap.size + 1, 3, none⟩ = some (.int .i64 q) := by rw [hc1 _ _ (by first | omega | (simp; done) | (simp; omega))]; simp [go_sem]
              have g1_1_4 : w1.cell? ⟨w.heap.size + 1, 4, none⟩ = some (.int .i64 t) := by rw [hc1 _ _ (by first | omega | (simp; done) | (simp; omega))]; simp [go_sem]
              have k1_1_0 : w1.frozen? ⟨w.heap.size + 1, 0, none⟩ = false := by rw [hf1 _ _ (by first | omega | (simp; done) | (simp; omega))]; simp [go_sem]
              have k1_1_1 : w1.frozen? ⟨w.heap.size + 1, 1, none⟩ = false := by rw [hf1 _ _ (by first | omega | (simp; done) | (simp; omega))]; simp [go_sem]
              have k1_1_2 : w1.frozen? ⟨w.heap.size + 1, 2, none⟩ = false := by rw [hf1 _ _ (by first | omega | (simp; done) | (simp; omega))]; simp [go_sem]
              have k1_1_3 : w1.frozen? ⟨w.heap.size + 1, 3, none⟩ = false := by rw [hf1 _ _ (by first | omega | (simp; done) | (simp; omega))]; simp [go_sem]
              have k1_1_4 : w1.frozen? ⟨w.heap.size + 1, 4, none⟩ = false := by rw [hf1 _ _ (by first | omega | (simp; done) | (simp; omega))]; simp [go_sem]
              have y1_1 : w.heap.size + 1 < w1.heap.size := by omega
              clear hc1 hf1 hz1
              go_wp2
              rw [HF.out]
              refine bodyPost_ret (v := .tuple #[.agg #[.int .i64 r, .int .i64 p, .int .i64 s, .int .i64 q, .int .i64 t], .int .i64 0]) (by simp [results, Try.results22, go_sem, g1_0_0, g1_0_1, g1_0_2, g1_0_3, g1_0_4]) rfl ?_
              exact ⟨rfl, by first | (go_grown; done) | (refine below_drewN ?_ _; go_grown)⟩
            · have HV := Lib.hid (fun w => rvalid_no ⟨r, p, s, q, t⟩ w (fun h2 => h (hiff.1 h2)))
              have HF := Lib.hid (show bnew r p s t = (zero, 3) by unfold bnew; rw [if_neg hr, if_neg h])
              clear h hr hp hp2 hs hs2 hiff
              go_enter Try.func22, Try.ntmps22
              unfold Bk.v zero at *
              go_wp2_with (first | (go_at_call 30; go_in) | (go_at_call 29; go_in))
              refine (HV.out _).mono ?_
              rintro e w1 ⟨rfl, hb1⟩
              obtain ⟨hc1, hf1⟩ := bcell hb1
              have hz1 := hb1.size
              try simp at hz1
              have HB1 : Below w.heap.size w w1 := Below.trans (by go_grown) (hb1.mono (by first | omega | (simp; done) | (simp; omega)))
              clear hb1
              have g1_0_0 : w1.cell? ⟨w.heap.size, 0, none⟩ = some (.int .i64 0) := by rw [hc1 _ _ (by first | omega | (simp; done) | (simp; omega))]; simp [go_sem]
              have g1_0_1 : w1.cell? ⟨w.heap.size, 1, none⟩ = some (.int .i64 0) := by rw [hc1 _ _ (by first | omega | (simp; done) | (simp; omega))]; simp [go_sem]
              have g1_0_2 : w1.cell? ⟨w.heap.size, 2, none⟩ = some (.int .i64 0) := by rw [hc1 _ _ (by first | omega | (simp; done) | (simp; omega))]; simp [go_sem]
              have g1_0_3 : w1.cell? ⟨w.heap.size, 3, none⟩ = some (.int .i64 0) := by rw [hc1 _ _ (by first | omega | (simp; done) | (simp; omega))]; simp [go_sem]
              have g1_0_4 : w1.cell? ⟨w.heap.size, 4, none⟩ = some (.int .i64 0) := by rw [hc1 _ _ (by first | omega | (simp; done) | (simp; omega))]; simp [go_sem]
              have k1_0_0 : w1.frozen? ⟨w.heap.size, 0, none⟩ = false := by rw [hf1 _ _ (by first | omega | (simp; done) | (simp; omega))]; simp [go_sem]
              have k1_0_1 : w1.frozen? ⟨w.heap.size, 1, none⟩ = false := by rw [hf1 _ _ (by first | omega | (simp; done) | (simp; omega))]; simp [go_sem]
              have k1_0_2 : w1.frozen? ⟨w.heap.size, 2, none⟩ = false := by rw [hf1 _ _ (by first | omega | (simp; done) | (simp; omega))]; simp [go_sem]
              have k1_0_3 : w1.frozen? ⟨w.heap.size, 3, none⟩ = false := by rw [hf1 _ _ (by first | omega | (simp; done) | (simp; omega))]; simp [go_sem]
              have k1_0_4 : w1.frozen? ⟨w.heap.size, 4, none⟩ = false := by rw [hf1 _ _ (by first | omega | (simp; done) | (simp; omega))]; simp [go_sem]
              have y1_0 : w.heap.size < w1.heap.size := by omega
              clear hc1 hf1 hz1
              go_wp2
              rw [HF.out]
              refine bodyPost_ret (v := .tuple #[.agg #[.int .i64 0, .int .i64 0, .int .i64 0, .int .i64 0, .int .i64 0], .int .i64 3]) (by simp [results, Try.results22, go_sem, g1_0_0, g1_0_1, g1_0_2, g1_0_3, g1_0_4]) rfl ?_
              exact ⟨rfl, by first | (go_grown; done) | (refine below_drewN ?_ _; go_grown)⟩

end Go.Proofs.Ytcfkmkabjalgjac
