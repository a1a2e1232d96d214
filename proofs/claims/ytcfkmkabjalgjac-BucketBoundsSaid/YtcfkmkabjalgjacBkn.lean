/- Plain facts on buckets: what BucketSteps asks: steps of time and takes of tokens add up. -/
import Derived.Test.YtcfkmkabjalgjacBkp
namespace Go.Proofs.Ytcfkmkabjalgjac
open Go.RowKit
set_option linter.unusedVariables false
set_option linter.unusedSimpArgs false

theorem adv_open (x : Bk) (now : Int) (h : Ok x) (hr : x.r = 4611686018427387904) (h1 : x.t ≤ now) (h2 : now ≤ 1048576) : badv x now = ({ x with t := now }, 0) := by
  obtain ⟨o1, o2, o3, o4, o5, o6⟩ := ok_open x h hr
  unfold badv; rw [if_neg (by simpa using h), if_neg (by omega), if_neg (by omega), if_pos hr]
theorem adv_shut (x : Bk) (now : Int) (h : Ok x) (hr : ¬ x.r = 4611686018427387904) (h1 : x.t ≤ now) (h2 : now ≤ 1048576) :
    badv x now = ({ x with l := if x.s * x.p < x.l + x.r * (now - x.t) then x.s * x.p else x.l + x.r * (now - x.t), t := now }, 0) := by
  obtain ⟨o1, o2, o3, o4, o5, o6, o7, o8, o9, o10, o11⟩ := ok_shut x h hr
  unfold badv; rw [if_neg (by simpa using h), if_neg (by omega), if_neg (by omega), if_neg hr]

/-- Two steps of time are one. -/
theorem adv_two (x : Bk) (s t : Int) (h : Ok x) (h1 : x.t ≤ s) (t0 : 0 ≤ t) (h2 : s + t ≤ 1048576) :
    ∃ c z : Bk, badv x s = (c, 0) ∧ badv c (s + t) = (z, 0) ∧ badv x (s + t) = (z, 0) ∧ Ok c := by
  by_cases hr : x.r = 4611686018427387904
  · have e1 := adv_open x s h hr h1 (by omega)
    have k1 := (badv_ok x s _ e1).1
    exact ⟨_, _, e1, adv_open _ (s + t) k1 hr (by simp only; omega) h2, adv_open x (s + t) h hr (by omega) h2, k1⟩
  · have e1 := adv_shut x s h hr h1 (by omega)
    have k1 := (badv_ok x s _ e1).1
    have e2 := adv_shut _ (s + t) k1 hr (by simp only; omega) h2
    have e3 := adv_shut x (s + t) h hr (by omega) h2
    obtain ⟨o1, o2, o3, o4, o5, o6, o7, o8, o9, o10, o11⟩ := ok_shut x h hr
    refine ⟨_, _, e1, e2, ?_, k1⟩
    rw [e3]
    simp only
    have A := Int.mul_nonneg o5 (show 0 ≤ s - x.t by omega)
    have B := Int.mul_nonneg o5 t0
    have C : x.r * (s + t - x.t) = x.r * (s - x.t) + x.r * t := by rw [← Int.mul_add]; congr 1; omega
    rw [C, show s + t - s = t by omega]
    generalize x.r * (s - x.t) = a at *
    generalize x.r * t = b at *
    generalize x.s * x.p = q at *
    have : (if q < x.l + (a + b) then q else x.l + (a + b)) = (if q < (if q < x.l + a then q else x.l + a) + b then q else (if q < x.l + a then q else x.l + a) + b) := by
      repeat' split
      all_goals omega
    rw [this]

theorem take_is (x c : Bk) (s n : Int) (e : badv x s = (c, 0)) (n0 : 0 ≤ n) (n1 : n ≤ 1073741824) :
    btake x s n = if c.r = 4611686018427387904 then (c, 0) else if c.l < n * c.p then (c, 11) else ({ c with l := c.l - n * c.p }, 0) := by
  have hok := (badv_ok x s _ e).1
  unfold btake
  rw [e]
  simp only
  rw [if_neg (by simp), if_neg (by omega)]
  by_cases hr : c.r = 4611686018427387904
  · rw [btok_open _ hok hr, if_neg (by omega), if_pos hr, if_pos hr]
  · obtain ⟨o1, o2, o3, o4, o5, o6, o7, o8, o9, o10, o11⟩ := ok_shut c hok hr
    have ht : btok c = c.l / c.p := by unfold btok; rw [if_neg (by simpa using hok), if_neg hr]
    rw [ht, if_neg hr, if_neg hr]
    by_cases hy : c.l < n * c.p
    · rw [if_pos (Int.ediv_lt_of_lt_mul (by omega) hy), if_pos hy]
    · rw [if_neg (fun hh => hy ((Int.ediv_lt_iff_lt_mul (show 0 < c.p by omega)).1 hh)), if_neg hy]

/-- A bucket that stands at s stays as it is when it is stepped to s. -/
theorem adv_same (c : Bk) (s : Int) (h : Ok c) (hs : c.t = s) : badv c s = (c, 0) := by
  subst hs
  by_cases hr : c.r = 4611686018427387904
  · obtain ⟨o1, o2, o3, o4, o5, o6⟩ := ok_open c h hr
    exact adv_open c c.t h hr (by omega) (by omega)
  · obtain ⟨o1, o2, o3, o4, o5, o6, o7, o8, o9, o10, o11⟩ := ok_shut c h hr
    rw [adv_shut c c.t h hr (by omega) (by omega), show c.t - c.t = 0 by omega, Int.mul_zero, if_neg (by omega), Int.add_zero]

/-- Two takes are one. -/
theorem take_two (x : Bk) (s n m : Int) (h : Ok x) (h1 : x.t ≤ s) (h2 : s ≤ 1048576) (n0 : 0 ≤ n) (n1 : n ≤ 1000) (m0 : 0 ≤ m) (m1 : m ≤ 1000) :
    ∃ (u v w : Bk) (e f g : Int), btake x s n = (u, e) ∧ btake u s m = (v, f) ∧ btake x s (n + m) = (w, g) ∧ (e = 0 ∨ e = 11) ∧ (f = 0 ∨ f = 11) ∧ (g = 0 ∨ g = 11) ∧
      (g = 0 ↔ e = 0 ∧ f = 0) ∧ (g = 0 → v = w) := by
  obtain ⟨c, e1⟩ : ∃ c, badv x s = (c, 0) := by
    by_cases hr : x.r = 4611686018427387904
    · exact ⟨_, adv_open x s h hr h1 h2⟩
    · exact ⟨_, adv_shut x s h hr h1 h2⟩
  obtain ⟨k1, kt, _⟩ := badv_ok x s _ e1
  have t1 := take_is x c s n e1 n0 (by omega)
  have t2 := take_is x c s (n + m) e1 (by omega) (by omega)
  have t3 := take_is c c s m (adv_same c s k1 kt) m0 (by omega)
  by_cases hr : c.r = 4611686018427387904
  · rw [if_pos hr] at t1 t2 t3
    exact ⟨c, c, c, 0, 0, 0, t1, t3, t2, .inl rfl, .inl rfl, .inl rfl, by simp, fun _ => rfl⟩
  · rw [if_neg hr] at t1 t2 t3
    obtain ⟨o1, o2, o3, o4, o5, o6, o7, o8, o9, o10, o11⟩ := ok_shut c k1 hr
    have hm := Int.mul_nonneg m0 (show 0 ≤ c.p by omega)
    have hn := Int.mul_nonneg n0 (show 0 ≤ c.p by omega)
    have hnm : (n + m) * c.p = n * c.p + m * c.p := Int.add_mul ..
    rw [hnm] at t2
    by_cases hy : c.l < n * c.p
    · rw [if_pos hy] at t1
      rw [if_pos (by omega)] at t2
      by_cases hz : c.l < m * c.p
      · rw [if_pos hz] at t3
        exact ⟨c, c, c, 11, 11, 11, t1, t3, t2, .inr rfl, .inr rfl, .inr rfl, by simp, fun _ => rfl⟩
      · rw [if_neg hz] at t3
        exact ⟨c, _, c, 11, 0, 11, t1, t3, t2, .inr rfl, .inl rfl, .inr rfl, by simp, fun hh => by cases hh⟩
    · rw [if_neg hy] at t1
      have ku : Ok { c with l := c.l - n * c.p } := by
        unfold Ok; simp only [hr, if_false]; exact ⟨o1, o2, o3, o4, o5, o6, o7, o8, by omega, by omega⟩
      have t4 := take_is _ _ s m (adv_same _ s ku kt) m0 (by omega)
      rw [if_neg hr] at t4
      simp only at t4
      by_cases hz : c.l - n * c.p < m * c.p
      · rw [if_pos hz] at t4
        rw [if_pos (by omega)] at t2
        exact ⟨_, _, c, 0, 11, 11, t1, t4, t2, .inl rfl, .inr rfl, .inr rfl, by simp, fun hh => by cases hh⟩
      · rw [if_neg hz] at t4
        rw [if_neg (by omega)] at t2
        exact ⟨_, _, _, 0, 0, 0, t1, t4, t2, .inl rfl, .inl rfl, .inl rfl, by simp, fun _ => by congr 1; omega⟩
end Go.Proofs.Ytcfkmkabjalgjac
