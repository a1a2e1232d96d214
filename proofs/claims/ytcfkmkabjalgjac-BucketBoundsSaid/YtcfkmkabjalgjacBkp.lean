/- Plain facts on buckets: when tokens can be taken. -/
import Derived.Test.YtcfkmkabjalgjacBkrt
namespace Go.Proofs.Ytcfkmkabjalgjac
open Go.RowKit
set_option linter.unusedVariables false
set_option linter.unusedSimpArgs false

theorem take_open (x : Bk) (now n : Int) (h : Ok x) (hr : x.r = 4611686018427387904) (h1 : x.t ≤ now) (h2 : now ≤ 1048576) (n0 : 0 ≤ n) (n1 : n ≤ 1073741824) : (btake x now n).2 = 0 := by
  obtain ⟨o1, o2, o3, o4, o5, o6⟩ := ok_open x h hr
  have hb : badv x now = ({ x with t := now }, 0) := by unfold badv; rw [if_neg (by simpa using h), if_neg (by omega), if_neg (by omega), if_pos hr]
  have hok := (badv_ok x now _ hb).1
  unfold btake
  rw [hb]
  simp only
  rw [if_neg (by simp), if_neg (by omega), btok_open _ hok hr, if_neg (by omega), if_pos hr]
theorem take_shut (x : Bk) (now n : Int) (h : Ok x) (hr : ¬ x.r = 4611686018427387904) (h1 : x.t ≤ now) (h2 : now ≤ 1048576) (n0 : 0 ≤ n) (n1 : n ≤ 1073741824) :
    (btake x now n).2 = if (if x.s * x.p < x.l + x.r * (now - x.t) then x.s * x.p else x.l + x.r * (now - x.t)) < n * x.p then 11 else 0 := by
  obtain ⟨o1, o2, o3, o4, o5, o6, o7, o8, o9, o10, o11⟩ := ok_shut x h hr
  have hb : badv x now = ({ x with l := if x.s * x.p < x.l + x.r * (now - x.t) then x.s * x.p else x.l + x.r * (now - x.t), t := now }, 0) := by
    unfold badv; rw [if_neg (by simpa using h), if_neg (by omega), if_neg (by omega), if_neg hr]
  have hok := (badv_ok x now _ hb).1
  unfold btake
  rw [hb]
  simp only
  rw [if_neg (by simp), if_neg (by omega)]
  have ht : btok { x with l := if x.s * x.p < x.l + x.r * (now - x.t) then x.s * x.p else x.l + x.r * (now - x.t), t := now } = (if x.s * x.p < x.l + x.r * (now - x.t) then x.s * x.p else x.l + x.r * (now - x.t)) / x.p := by
    unfold btok; rw [if_neg (by simpa using hok), if_neg hr]
  rw [ht]
  generalize (if x.s * x.p < x.l + x.r * (now - x.t) then x.s * x.p else x.l + x.r * (now - x.t)) = y
  by_cases hy : y < n * x.p
  · rw [if_pos (Int.ediv_lt_of_lt_mul (by omega) hy), if_pos hy]
  · rw [if_neg (fun hh => hy ((Int.ediv_lt_iff_lt_mul (show 0 < x.p by omega)).1 hh)), if_neg hy, if_neg hr]

/-- What BucketWhen asks. -/
theorem when_ok (x : Bk) (n : Int) (h : Ok x) (n0 : 0 ≤ n) (n1 : n ≤ 1000) :
    ((bwhen x n).2 ≠ 0 → (bwhen x n).2 = 21 ∧ (btake x 1048576 n).2 = 11) ∧
    ((bwhen x n).2 = 0 → (btake x (bwhen x n).1 n).2 = 0 ∧ x.t ≤ (bwhen x n).1 ∧ (bwhen x n).1 ≤ 1048576 ∧ (x.t < (bwhen x n).1 → (btake x ((bwhen x n).1 - 1) n).2 = 11)) := by
  by_cases hr : x.r = 4611686018427387904
  · obtain ⟨o1, o2, o3, o4, o5, o6⟩ := ok_open x h hr
    have hw : bwhen x n = (x.t, 0) := by unfold bwhen; rw [if_neg (by simpa using h), if_neg (by omega), if_pos (.inl hr)]
    rw [hw]
    simp only
    exact ⟨fun hh => absurd rfl hh, fun _ => ⟨take_open x x.t n h hr (by omega) (by omega) n0 (by omega), by omega, by omega, fun hh => by omega⟩⟩
  · obtain ⟨o1, o2, o3, o4, o5, o6, o7, o8, o9, o10, o11⟩ := ok_shut x h hr
    by_cases hm : n * x.p - x.l ≤ 0
    · have hw : bwhen x n = (x.t, 0) := by unfold bwhen; rw [if_neg (by simpa using h), if_neg (by omega), if_pos (.inr hm)]
      rw [hw]
      simp only
      refine ⟨fun hh => absurd rfl hh, fun _ => ⟨?_, by omega, by omega, fun hh => by omega⟩⟩
      rw [take_shut x x.t n h hr (by omega) (by omega) n0 (by omega), show x.t - x.t = 0 by omega, Int.mul_zero]
      rw [if_neg]
      split <;> omega
    · have hnm : ¬ (x.r = 4611686018427387904 ∨ n * x.p - x.l ≤ 0) := by omega
      by_cases hs : x.s < n
      · have hw : bwhen x n = (0, 21) := by unfold bwhen; rw [if_neg (by simpa using h), if_neg (by omega), if_neg hnm, if_pos (.inl hs)]
        rw [hw]
        simp only
        refine ⟨fun _ => ⟨trivial, ?_⟩, fun hh => by cases hh⟩
        rw [take_shut x 1048576 n h hr (by omega) (by omega) n0 (by omega), if_pos]
        have := Int.mul_lt_mul_of_pos_right hs (show 0 < x.p by omega)
        split <;> omega
      · by_cases hr0 : x.r = 0
        · have hw : bwhen x n = (0, 21) := by unfold bwhen; rw [if_neg (by simpa using h), if_neg (by omega), if_neg hnm, if_pos (.inr hr0)]
          rw [hw]
          simp only
          refine ⟨fun _ => ⟨trivial, ?_⟩, fun hh => by cases hh⟩
          rw [take_shut x 1048576 n h hr (by omega) (by omega) n0 (by omega), if_pos]
          rw [hr0, Int.zero_mul]
          split <;> omega
        · have hs2 := Int.mul_le_mul_of_nonneg_right (show n ≤ x.s by omega) (show 0 ≤ x.p by omega)
          have hrp : 0 < x.r := by omega
          have key : ∀ d, d ≤ (n * x.p - x.l + x.r - 1) / x.r ↔ d * x.r ≤ n * x.p - x.l + x.r - 1 := fun d => Int.le_ediv_iff_mul_le hrp
          obtain ⟨z, hz⟩ : ∃ z, (n * x.p - x.l + x.r - 1) / x.r = z := ⟨_, rfl⟩
          rw [hz] at key
          have k1 := (key z).1 (Int.le_refl _)
          have k2 : ¬ (z + 1) * x.r ≤ n * x.p - x.l + x.r - 1 := fun hh => by have := (key (z + 1)).2 hh; omega
          have k3 : (1 : Int) ≤ z := (key 1).2 (by omega)
          rw [Int.add_mul, Int.one_mul] at k2
          by_cases hf : 1048576 < x.t + z
          · have hw : bwhen x n = (0, 21) := by unfold bwhen; rw [if_neg (by simpa using h), if_neg (by omega), if_neg hnm, if_neg (by omega), hz, if_pos hf]
            rw [hw]
            simp only
            refine ⟨fun _ => ⟨trivial, ?_⟩, fun hh => by cases hh⟩
            rw [take_shut x 1048576 n h hr (by omega) (by omega) n0 (by omega), if_pos]
            have k4 := (key (1048576 - x.t + 1)).1 (by omega)
            rw [Int.add_mul, Int.one_mul, Int.mul_comm (1048576 - x.t)] at k4
            split <;> omega
          · have hw : bwhen x n = (x.t + z, 0) := by unfold bwhen; rw [if_neg (by simpa using h), if_neg (by omega), if_neg hnm, if_neg (by omega), hz, if_neg hf]
            rw [hw]
            simp only
            refine ⟨fun hh => absurd rfl hh, fun _ => ⟨?_, by omega, by omega, fun _ => ?_⟩⟩
            · rw [take_shut x (x.t + z) n h hr (by omega) (by omega) n0 (by omega), show x.t + z - x.t = z by omega, Int.mul_comm x.r z, if_neg]
              split <;> omega
            · rw [take_shut x (x.t + z - 1) n h hr (by omega) (by omega) n0 (by omega), show x.t + z - 1 - x.t = z - 1 by omega, Int.mul_comm x.r (z - 1), Int.sub_mul, Int.one_mul, if_pos]
              split <;> omega
end Go.Proofs.Ytcfkmkabjalgjac
