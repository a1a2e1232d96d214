/- Plain facts on buckets: more tokens are there no earlier, and a greater rate has them no later. -/
import Derived.Test.YtjfknijaohemgabBkp
namespace Go.Proofs.Ytjfknijaohemgab
open Go.RowKit
set_option linter.unusedVariables false

theorem when_open (x : Bk) (n : Int) (h : Ok x) (hr : x.r = 4611686018427387904) (n0 : 0 ≤ n) (n1 : n ≤ 1000) : bwhen x n = (x.t, 0) := by
  unfold bwhen; rw [if_neg (by simpa using h), if_neg (by omega), if_pos (.inl hr)]
theorem when_now (x : Bk) (n : Int) (h : Ok x) (n0 : 0 ≤ n) (n1 : n ≤ 1000) (hm : n * x.p - x.l ≤ 0) : bwhen x n = (x.t, 0) := by
  unfold bwhen; rw [if_neg (by simpa using h), if_neg (by omega), if_pos (.inr hm)]
theorem when_then (x : Bk) (n : Int) (h : Ok x) (hr : ¬ x.r = 4611686018427387904) (n0 : 0 ≤ n) (n1 : n ≤ 1000) (hm : ¬ n * x.p - x.l ≤ 0) :
    bwhen x n = if x.s < n ∨ x.r = 0 then (0, 21) else if 1048576 < x.t + (n * x.p - x.l + x.r - 1) / x.r then (0, 21) else (x.t + (n * x.p - x.l + x.r - 1) / x.r, 0) := by
  unfold bwhen; rw [if_neg (by simpa using h), if_neg (by omega), if_neg (by omega)]

theorem waits_more (x : Bk) (n m : Int) (h : Ok x) (n0 : 0 ≤ n) (nm : n ≤ m) (m1 : m ≤ 1000) (hf : (bwhen x m).2 = 0) : (bwhen x n).2 = 0 ∧ (bwhen x n).1 ≤ (bwhen x m).1 := by
  by_cases hr : x.r = 4611686018427387904
  · rw [when_open x n h hr n0 (by omega), when_open x m h hr (by omega) m1]; exact ⟨rfl, Int.le_refl _⟩
  · obtain ⟨o1, o2, o3, o4, o5, o6, o7, o8, o9, o10, o11⟩ := ok_shut x h hr
    have hnm := Int.mul_le_mul_of_nonneg_right nm (show 0 ≤ x.p by omega)
    by_cases hm : m * x.p - x.l ≤ 0
    · rw [when_now x n h n0 (by omega) (by omega), when_now x m h (by omega) m1 hm]; exact ⟨rfl, Int.le_refl _⟩
    · have wm := when_then x m h hr (by omega) m1 hm
      by_cases hs : x.s < m ∨ x.r = 0
      · rw [if_pos hs] at wm; rw [wm] at hf; cases hf
      · rw [if_neg hs] at wm
        by_cases ht : 1048576 < x.t + (m * x.p - x.l + x.r - 1) / x.r
        · rw [if_pos ht] at wm; rw [wm] at hf; cases hf
        · rw [if_neg ht] at wm
          rw [wm]
          simp only
          have hz0 := Int.ediv_nonneg (show 0 ≤ m * x.p - x.l + x.r - 1 by omega) (show 0 ≤ x.r by omega)
          by_cases hn : n * x.p - x.l ≤ 0
          · rw [when_now x n h n0 (by omega) hn]; exact ⟨rfl, by simp only; omega⟩
          · have hle := Int.ediv_le_ediv (show 0 < x.r by omega) (show n * x.p - x.l + x.r - 1 ≤ m * x.p - x.l + x.r - 1 by omega)
            rw [when_then x n h hr n0 (by omega) hn, if_neg (by omega), if_neg (by omega)]
            exact ⟨rfl, by simp only; omega⟩

theorem ok_rate (x : Bk) (k : Int) (h : Ok x) (hr : ¬ x.r = 4611686018427387904) (k0 : 0 ≤ k) (hk : x.r + k ≤ 1073741824) : Ok { x with r := x.r + k } := by
  obtain ⟨o1, o2, o3, o4, o5, o6, o7, o8, o9, o10, o11⟩ := ok_shut x h hr
  unfold Ok
  simp only
  rw [if_neg (by omega)]
  exact ⟨o1, o2, o3, o4, by omega, hk, o7, o8, o9, o10⟩

theorem waits_rate (x : Bk) (n k : Int) (h : Ok x) (hr : ¬ x.r = 4611686018427387904) (k0 : 0 ≤ k) (hk : x.r + k ≤ 1073741824) (n0 : 0 ≤ n) (n1 : n ≤ 1000) (he : (bwhen x n).2 = 0) :
    (bwhen { x with r := x.r + k } n).2 = 0 ∧ (bwhen { x with r := x.r + k } n).1 ≤ (bwhen x n).1 := by
  obtain ⟨o1, o2, o3, o4, o5, o6, o7, o8, o9, o10, o11⟩ := ok_shut x h hr
  have h' := ok_rate x k h hr k0 hk
  by_cases hn : n * x.p - x.l ≤ 0
  · rw [when_now x n h n0 n1 hn, when_now _ n h' n0 n1 hn]; exact ⟨rfl, Int.le_refl _⟩
  · have wx := when_then x n h hr n0 n1 hn
    have wy := when_then { x with r := x.r + k } n h' (by simp only; omega) n0 n1 hn
    simp only at wy
    by_cases hs : x.s < n ∨ x.r = 0
    · rw [if_pos hs] at wx; rw [wx] at he; cases he
    · rw [if_neg hs] at wx
      by_cases ht : 1048576 < x.t + (n * x.p - x.l + x.r - 1) / x.r
      · rw [if_pos ht] at wx; rw [wx] at he; cases he
      · rw [if_neg ht] at wx
        rw [wx]
        simp only
        have hrp : 0 < x.r := by omega
        have hrq : 0 < x.r + k := by omega
        obtain ⟨z, hz⟩ : ∃ z, (n * x.p - x.l + x.r - 1) / x.r = z := ⟨_, rfl⟩
        have k1 : ¬ (z + 1) * x.r ≤ n * x.p - x.l + x.r - 1 := fun hh => by
          have := (Int.le_ediv_iff_mul_le hrp).2 hh
          rw [hz] at this; omega
        have z0 : 0 ≤ z := by rw [← hz]; exact Int.ediv_nonneg (by omega) (by omega)
        have k2 := Int.mul_nonneg z0 k0
        have hlt : (n * x.p - x.l + (x.r + k) - 1) / (x.r + k) < z + 1 := by
          refine (Int.ediv_lt_iff_lt_mul hrq).2 ?_
          rw [Int.mul_add, Int.add_mul z 1 x.r, Int.add_mul z 1 k, Int.one_mul, Int.one_mul]
          rw [Int.add_mul, Int.one_mul] at k1
          omega
        rw [hz] at ht ⊢
        rw [wy, if_neg (by omega), if_neg (by omega)]
        exact ⟨rfl, by simp only; omega⟩
end Go.Proofs.Ytjfknijaohemgab
