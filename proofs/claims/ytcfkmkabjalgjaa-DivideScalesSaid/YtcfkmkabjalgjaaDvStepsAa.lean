/- Contracts of functions, told of values, on the way to DivideScales. -/
import Derived.Test.YtcfkmkabjalgjaaTyAa
import Derived.Test.YtcfkmkabjalgjaaDvSharesAa
namespace Go.Proofs.Ytcfkmkabjalgjaa
set_option linter.unusedVariables false
set_option linter.unusedSimpArgs false
open Go.Proofs.Ytcfkmkabjalgjaa.Sh Go.RowKit
theorem level_eq {ws gs : List Int} {i b : Nat} (hi : rated ws gs i = true) (hb : rated ws gs b = true) : level ws gs i b = 0 ↔ (gs.getD i 0 + 1) * ws.getD b 0 = (gs.getD b 0 + 1) * ws.getD i 0 := by
  simp only [level, hi, hb, Bool.not_true, Bool.or_self, Bool.false_eq_true, if_false, cmpI, Int.toNat_natCast]
  split
  · exact ⟨fun q => by omega, fun q => by omega⟩
  · split
    · exact ⟨fun q => by omega, fun q => by omega⟩
    · exact ⟨fun q => by omega, fun q => rfl⟩
/-- of those that are equal the first is chosen -/
theorem firstN_first (ws gs ds : List Int) (hr : ∀ i, i < ws.length → rated ws gs i = true) : ∀ n, n ≤ ws.length → ∀ b : Nat, (firstN ws gs ds n).2 = true → (firstN ws gs ds n).1 = (b : Int) → ∀ i, i < b → gs.getD i 0 < ds.getD i 0 → (gs.getD b 0 + 1) * ws.getD i 0 < (gs.getD i 0 + 1) * ws.getD b 0
  | 0, _, b, h, _, _, _, _ => by cases h
  | n + 1, hn, b, h, hb, i, hi, hlt => by
    obtain ⟨h1, h2⟩ := firstN_min ws gs ds hr n (by omega)
    have hrn := rated_iff (hr n (by omega))
    simp only [Int.toNat_natCast] at hrn
    unfold firstN at h hb
    by_cases hc : (decide (gs.getD n 0 < ds.getD n 0) && (!(firstN ws gs ds n).2 || decide (level ws gs n (firstN ws gs ds n).1 < 0))) = true
    · rw [if_pos hc] at h hb
      have hbn : b = n := by have : (n : Int) = b := hb; omega
      subst hbn
      simp only [Bool.and_eq_true, decide_eq_true_eq, Bool.or_eq_true, Bool.not_eq_true'] at hc
      rcases hc.2 with hf | hl
      · have := h1 hf i hi; omega
      · cases hq : (firstN ws gs ds b).2 with
        | false => have := h1 hq i hi; omega
        | true =>
          obtain ⟨a, ha, hae, hal, ham⟩ := h2 hq
          rw [hae, level_lt (hr b (by omega)) (hr a (by omega))] at hl
          have hm := ham i hi hlt
          have hra := rated_iff (hr a (by omega))
          have hri := rated_iff (hr i (by omega))
          simp only [Int.toNat_natCast] at hra hri
          have e1 : (gs.getD b 0 + 1) * ws.getD a 0 * ws.getD i 0 < (gs.getD a 0 + 1) * ws.getD b 0 * ws.getD i 0 := Int.mul_lt_mul_of_pos_right (by omega) (by omega)
          have e2 : (gs.getD a 0 + 1) * ws.getD i 0 * ws.getD b 0 ≤ (gs.getD i 0 + 1) * ws.getD a 0 * ws.getD b 0 := Int.mul_le_mul_of_nonneg_right hm (by omega)
          have e3 : (gs.getD b 0 + 1) * ws.getD i 0 * ws.getD a 0 < (gs.getD i 0 + 1) * ws.getD b 0 * ws.getD a 0 := by
            have r1 : (gs.getD b 0 + 1) * ws.getD a 0 * ws.getD i 0 = (gs.getD b 0 + 1) * ws.getD i 0 * ws.getD a 0 := Int.mul_right_comm _ _ _
            have r2 : (gs.getD a 0 + 1) * ws.getD b 0 * ws.getD i 0 = (gs.getD a 0 + 1) * ws.getD i 0 * ws.getD b 0 := Int.mul_right_comm _ _ _
            have r3 : (gs.getD i 0 + 1) * ws.getD a 0 * ws.getD b 0 = (gs.getD i 0 + 1) * ws.getD b 0 * ws.getD a 0 := Int.mul_right_comm _ _ _
            omega
          exact Int.lt_of_mul_lt_mul_right e3 (by omega)
    · rw [if_neg hc] at h hb
      exact firstN_first ws gs ds hr n (by omega) b h hb i hi hlt
end Go.Proofs.Ytcfkmkabjalgjaa
