/- Plain facts on changed buckets. -/
import Derived.Test.YtcfkmkabjalgjacBkc
import Derived.Test.YtcfkmkabjalgjacBkn
namespace Go.Proofs.Ytcfkmkabjalgjac
open Go.RowKit
set_option linter.unusedVariables false
set_option linter.unusedSimpArgs false

/-- What BucketChanges asks. -/
theorem chg_ok (x : Bk) (r p s : Int) (h : Ok x) (hr : r = 4611686018427387904 ∨ (0 ≤ r ∧ r ≤ 1000)) (p0 : 1 ≤ p) (p1 : p ≤ 1000) (s0 : 0 ≤ s) (s1 : s ≤ 1000) :
    ∃ c : Bk, bchg x r p s x.t = (c, 0) ∧ c.r = r ∧ c.p = p ∧ c.t = x.t ∧ (r = 4611686018427387904 → btok c = 1073741824) ∧
      (¬ r = 4611686018427387904 → c.s = s ∧ btok c = if x.r = 4611686018427387904 then 0 else if s < btok x then s else btok x) := by
  have ha := adv_same x x.t h rfl
  have hx := h
  obtain ⟨t0, t1⟩ : 0 ≤ x.t ∧ x.t ≤ 1048576 := ⟨h.2.2.1, h.2.2.2.1⟩
  obtain ⟨k0, k1⟩ := btok_bd x
  by_cases hm : r = 4611686018427387904
  · have hk : Ok ⟨r, p, 0, 0, x.t⟩ := by unfold Ok; simp [hm]; omega
    have hn : bnew r p s x.t = (⟨r, p, 0, 0, x.t⟩, 0) := by
      unfold bnew; rw [if_pos hm, if_pos hk, Int.zero_mul]
    refine ⟨⟨r, p, 0, 0, x.t⟩, ?_, rfl, rfl, rfl, fun _ => btok_open _ hk hm, fun hh => absurd hm hh⟩
    unfold bchg
    rw [ha, hn]
    simp only
    rw [if_neg (by simp), if_neg (by simp)]
    have : (if (0 : Int) < (if x.r = 4611686018427387904 then 0 else btok x) then 0 else (if x.r = 4611686018427387904 then 0 else btok x)) = 0 := by
      by_cases h2 : x.r = 4611686018427387904
      · simp [h2]
      · simp only [if_neg h2]; split <;> omega
    rw [this, Int.zero_mul]
  · have hr2 : 0 ≤ r ∧ r ≤ 1000 := by rcases hr with h1 | h1; exact absurd h1 hm; exact h1
    have hk : Ok ⟨r, p, s, 0, x.t⟩ := by
      unfold Ok; simp only [hm, if_false]
      have := Int.mul_nonneg s0 (show 0 ≤ p by omega)
      omega
    have hn : bnew r p s x.t = (⟨r, p, s, s * p, x.t⟩, 0) := by
      unfold bnew; rw [if_neg hm, if_pos hk]
    obtain ⟨k, hkk⟩ : ∃ k, (if x.r = 4611686018427387904 then (0 : Int) else if s < btok x then s else btok x) = k := ⟨_, rfl⟩
    have hkb : 0 ≤ k ∧ k ≤ s := by subst hkk; split; omega; split <;> omega
    have e1 : (if s < (if x.r = 4611686018427387904 then 0 else btok x) then s else (if x.r = 4611686018427387904 then 0 else btok x)) = k := by
      subst hkk
      by_cases hz : x.r = 4611686018427387904
      · simp only [if_pos hz]; rw [if_neg (by omega)]
      · simp only [if_neg hz]
    have m0 := Int.mul_nonneg hkb.1 (show 0 ≤ p by omega)
    have m1 := Int.mul_le_mul_of_nonneg_right hkb.2 (show 0 ≤ p by omega)
    have hc : Ok ⟨r, p, s, k * p, x.t⟩ := by
      unfold Ok; simp only [hm, if_false]; omega
    refine ⟨⟨r, p, s, k * p, x.t⟩, ?_, rfl, rfl, rfl, fun hh => absurd hh hm, fun _ => ⟨rfl, ?_⟩⟩
    · unfold bchg
      rw [ha, hn]
      simp only
      rw [if_neg (by simp), if_neg (by simp), e1]
    · rw [hkk]
      unfold btok
      rw [if_neg (by simpa using hc), if_neg hm]
      exact Int.mul_ediv_cancel _ (by omega)

theorem chg_ok2 (x : Bk) (r p s : Int) (h : Ok x) (hr : r = 4611686018427387904 ∨ (0 ≤ r ∧ r ≤ 1000)) (p0 : 1 ≤ p) (p1 : p ≤ 1000) (s0 : 0 ≤ s) (s1 : s ≤ 1000) :
    ∃ z l : Int, bchg x r p s x.t = (⟨r, p, z, l, x.t⟩, 0) ∧ (r = 4611686018427387904 → btok ⟨r, p, z, l, x.t⟩ = 1073741824) ∧
      (¬ r = 4611686018427387904 → z = s ∧ btok ⟨r, p, z, l, x.t⟩ = if x.r = 4611686018427387904 then 0 else if s < btok x then s else btok x) := by
  obtain ⟨⟨c1, c2, c3, c4, c5⟩, h1, h2, h3, h4, h5, h6⟩ := chg_ok x r p s h hr p0 p1 s0 s1
  simp only at h2 h3 h4
  subst h2 h3 h4
  exact ⟨c3, c4, h1, h5, h6⟩
end Go.Proofs.Ytcfkmkabjalgjac
