/- Contracts of functions, told of values, on the way to WorkloadExact. -/
import Derived.Test.YtdpekegikbbeoaaTyDa
import Derived.Test.YtdpekegikbbeoaaWkcDa
-- NEWGO
namespace Go.Proofs.Ytdpekegikbbeoaa
set_option linter.unusedVariables false
set_option linter.unusedSimpArgs false
open Go.Proofs.Ytdpekegikbbeoaa.Sh
set_option maxRecDepth 20000
structure Good (p : List (List Stp)) (r x : Rr) : Prop where
  s : snd p x = true
  t : x.t = r.t
  p : x.p = r.p
theorem snd_v {p : List (List Stp)} {r : Rr} (h1 : snd p r = true) : vOk p = true := by
  unfold snd at h1
  rw [Bool.and_eq_true, Bool.and_eq_true, Bool.and_eq_true] at h1
  exact h1.1.1.1
theorem pnext_good {p : List (List Stp)} {r : Rr} (h1 : snd p r = true) (he : (pnext p r).2 = 0) : Good p r (pnext p r).1 := by
  have hi := snd_iff h1
  have hv := snd_v h1
  unfold pnext at he ⊢
  rw [if_neg (by simp [h1])] at he ⊢
  by_cases h4 : r.s = 4
  · rw [if_pos h4] at he; simp at he
  · rw [if_neg h4]
    have ha : 0 ≤ r.a ∧ r.a < (stl p r).length := by
      rcases hi.2.2.2.2 with h5 | h5
      · exact absurd h5.1 h4
      · exact h5.2.2.1
    split
    · have := snd_gTo (r := r) (a := 0) hv hi.2.1 hi.2.2.1 (by omega)
      exact ⟨this.1, this.2.1, this.2.2.1⟩
    · have := snd_gTo (r := r) (a := r.a + 1) hv hi.2.1 hi.2.2.1 (by omega)
      exact ⟨this.1, this.2.1, this.2.2.1⟩
theorem punit_good {p : List (List Stp)} {r : Rr} (h1 : snd p r = true) (he : (punit p r).2 = 0) : Good p r (punit p r).1 := by
  unfold punit at he ⊢
  rw [if_neg (by simp [h1])] at he ⊢
  by_cases hc : r.s = 0 ∧ (stp p r).k = 1
  · rw [if_neg (by simp [hc])] at he ⊢
    by_cases hl : r.l = 1
    · rw [if_pos hl] at he ⊢
      exact pnext_good h1 he
    · rw [if_neg hl]
      refine ⟨?_, rfl, rfl⟩
      have hr := left_rng h1 (by omega) hc.2
      have h4 : ¬ r.s = 4 := by omega
      unfold snd at h1 ⊢
      rw [if_neg h4] at h1
      unfold snd1 at h1 ⊢
      have e : stl p { r with l := r.l - 1 } = stl p r := rfl
      have e2 : stp p { r with l := r.l - 1 } = stp p r := rfl
      simp only [e, e2, if_neg h4, Bool.and_eq_true] at h1 ⊢
      refine ⟨h1.1, h1.2.1, ?_, h1.2.2.2⟩
      have h6 := h1.2.2.1
      unfold sLeft at h6 ⊢
      rw [if_pos hc.2, wi_iff] at h6 ⊢
      omega
  · rw [if_pos hc] at he; simp at he
theorem pwait_good {p : List (List Stp)} {r : Rr} {st u : Int} (h1 : snd p r = true) (he : (pwait p r st u).2 = 0) : Good p r (pwait p r st u).1 := by
  unfold pwait at he ⊢
  rw [if_neg (by simp [h1])] at he ⊢
  by_cases h4 : r.s = 4
  · rw [if_pos h4] at he; simp at he
  · rw [if_neg h4] at he ⊢
    cases h5 : wi st 1 3 && sWait st u with
    | false => rw [h5, if_pos rfl] at he; simp at he
    | true => rw [if_neg (by simp)]; exact ⟨snd_wait h1 h4 h5, rfl, rfl⟩
theorem pwake_good {p : List (List Stp)} {r : Rr} {now : Int} (h1 : snd p r = true) : Good p r (pwake p r now).1 := by
  unfold pwake
  by_cases hc : snd p r = true ∧ r.s = 1 ∧ r.u ≤ now
  · rw [if_pos hc]
    refine pnext_good h1 ?_
    unfold pnext; rw [if_neg (by simp [h1]), if_neg (by omega)]; split <;> rfl
  · rw [if_neg hc]; exact ⟨h1, rfl, rfl⟩
end Go.Proofs.Ytdpekegikbbeoaa
