/- Contracts of functions, told of values, on the way to DivideAll. -/
import Derived.Test.YtcfkmkabjalgjabTyAb
import Derived.Test.YtcfkmkabjalgjabDv3Ab
namespace Go.Proofs.Ytcfkmkabjalgjab
set_option linter.unusedVariables false
set_option linter.unusedSimpArgs false
open Go.Proofs.Ytcfkmkabjalgjab.Sh
/-- a sum, from the first on -/
def sm (f : Nat → Int) : Nat → Int
  | 0 => 0
  | n + 1 => sm f n + f n
theorem sm_le {f g : Nat → Int} : ∀ {n : Nat}, (∀ i, i < n → f i ≤ g i) → sm f n ≤ sm g n
  | 0, _ => Int.le_refl _
  | n + 1, h => by
    have := sm_le (n := n) fun i hi => h i (by omega)
    have := h n (by omega)
    simp only [sm]; omega
theorem sm_lt {f g : Nat → Int} : ∀ {n : Nat}, (∀ i, i < n → f i ≤ g i) → (∃ i, i < n ∧ f i < g i) → sm f n < sm g n
  | 0, _, ⟨i, hi, _⟩ => by omega
  | n + 1, h, ⟨i, hi, hlt⟩ => by
    have h1 := sm_le (n := n) fun i hi => h i (by omega)
    have h2 := h n (by omega)
    simp only [sm]
    rcases Nat.lt_or_ge i n with h3 | h3
    · have := sm_lt (n := n) (fun i hi => h i (by omega)) ⟨i, h3, hlt⟩; omega
    · have : i = n := by omega
      subst this; omega
theorem sm_congr {f g : Nat → Int} : ∀ {n : Nat}, (∀ i, i < n → f i = g i) → sm f n = sm g n
  | 0, _ => rfl
  | n + 1, h => by simp only [sm]; rw [sm_congr fun i hi => h i (by omega), h n (by omega)]
theorem sm_mul (f : Nat → Int) (c : Int) : ∀ n, sm (fun i => f i * c) n = sm f n * c
  | 0 => by simp [sm]
  | n + 1 => by simp only [sm]; rw [sm_mul f c n, Int.add_mul]
theorem sm_mul' (f : Nat → Int) (c : Int) : ∀ n, sm (fun i => c * f i) n = c * sm f n
  | 0 => by simp [sm]
  | n + 1 => by simp only [sm]; rw [sm_mul' f c n, Int.mul_add]
theorem sm_bump {f g : Nat → Int} {b : Nat} : ∀ {n : Nat}, (∀ i, i ≠ b → g i = f i) → g b = f b + 1 → sm g n = if b < n then sm f n + 1 else sm f n
  | 0, _, _ => rfl
  | n + 1, h, hb => by
    simp only [sm]
    rw [sm_bump h hb]
    by_cases e : n = b
    · subst e; rw [if_neg (by omega), if_pos (by omega), hb]; omega
    · rw [h n e]
      by_cases h1 : b < n
      · rw [if_pos h1, if_pos (by omega)]; omega
      · rw [if_neg h1, if_neg (by omega)]
theorem sm_zero : ∀ n, sm (fun _ => 0) n = 0
  | 0 => rfl
  | n + 1 => by simp only [sm, sm_zero n]; rfl

theorem sm_rng {f : Nat → Int} {B : Int} {n : Nat} (h : ∀ i, i < n → 0 ≤ f i ∧ f i ≤ B) : ∀ m, m ≤ n → 0 ≤ sm f m ∧ sm f m ≤ B * m
  | 0, _ => by simp [sm]
  | m + 1, hm => by
    have h1 := sm_rng h m (by omega)
    have h2 := h m (by omega)
    simp only [sm]
    rw [Int.natCast_add, Int.mul_add]
    omega
theorem getD_set (xs : List Int) (b i : Nat) (v : Int) (hb : b < xs.length) : (xs.set b v).getD i 0 = if i = b then v else xs.getD i 0 := by
  simp only [List.getD_eq_getElem?_getD, List.getElem?_set]
  by_cases e : b = i
  · subst e; simp [hb]
  · rw [if_neg e, if_neg (fun h => e h.symm)]

theorem level_lt {ws gs : List Int} {i b : Nat} (hi : rated ws gs i = true) (hb : rated ws gs b = true) : level ws gs i b < 0 ↔ (gs.getD i 0 + 1) * ws.getD b 0 < (gs.getD b 0 + 1) * ws.getD i 0 := by
  simp only [level, hi, hb, Bool.not_true, Bool.or_self, Bool.false_eq_true, if_false, cmpI, Int.toNat_natCast]
  split
  · rename_i h; exact ⟨fun _ => h, fun _ => by omega⟩
  · rename_i h
    split
    · exact ⟨fun q => by omega, fun q => absurd q h⟩
    · exact ⟨fun q => by omega, fun q => absurd q h⟩

/-- the one that is chosen has the least rate -/
theorem firstN_min (ws gs ds : List Int) (hr : ∀ i, i < ws.length → rated ws gs i = true) : ∀ n, n ≤ ws.length →
    ((firstN ws gs ds n).2 = false → ∀ i, i < n → ds.getD i 0 ≤ gs.getD i 0) ∧
    ((firstN ws gs ds n).2 = true → ∃ b, b < n ∧ (firstN ws gs ds n).1 = (b : Int) ∧ gs.getD b 0 < ds.getD b 0 ∧ ∀ i, i < n → gs.getD i 0 < ds.getD i 0 → (gs.getD b 0 + 1) * ws.getD i 0 ≤ (gs.getD i 0 + 1) * ws.getD b 0)
  | 0, _ => ⟨fun _ i hi => by omega, fun h => by cases h⟩
  | n + 1, hn => by
    obtain ⟨h1, h2⟩ := firstN_min ws gs ds hr n (by omega)
    have hrn := rated_iff (hr n (by omega))
    simp only [Int.toNat_natCast] at hrn
    unfold firstN
    by_cases hc : (decide (gs.getD n 0 < ds.getD n 0) && (!(firstN ws gs ds n).2 || decide (level ws gs n (firstN ws gs ds n).1 < 0))) = true
    · rw [if_pos hc]
      refine ⟨(fun h => by cases h), fun _ => ⟨n, by omega, rfl, ?_, ?_⟩⟩
      · simp only [Bool.and_eq_true, decide_eq_true_eq] at hc; exact hc.1
      · intro i hi hlt
        simp only [Bool.and_eq_true, decide_eq_true_eq, Bool.or_eq_true, Bool.not_eq_true'] at hc
        rcases Nat.lt_or_ge i n with hin | hin
        · rcases hc.2 with hf | hl
          · have := h1 hf i hin; omega
          · cases hq : (firstN ws gs ds n).2 with
            | false => have := h1 hq i hin; omega
            | true =>
              obtain ⟨b, hb, hbe, hbl, hbm⟩ := h2 hq
              rw [hbe, level_lt (hr n (by omega)) (hr b (by omega))] at hl
              have hm := hbm i hin hlt
              have hrb := rated_iff (hr b (by omega))
              have hri := rated_iff (hr i (by omega))
              simp only [Int.toNat_natCast] at hrb hri
              -- (gn+1) wb < (gb+1) wn, (gb+1) wi <= (gi+1) wb ; want (gn+1) wi <= (gi+1) wn
              have e1 : (gs.getD n 0 + 1) * ws.getD b 0 * ws.getD i 0 ≤ (gs.getD b 0 + 1) * ws.getD n 0 * ws.getD i 0 := Int.mul_le_mul_of_nonneg_right (by omega) (by omega)
              have e2 : (gs.getD b 0 + 1) * ws.getD i 0 * ws.getD n 0 ≤ (gs.getD i 0 + 1) * ws.getD b 0 * ws.getD n 0 := Int.mul_le_mul_of_nonneg_right hm (by omega)
              have e3 : (gs.getD n 0 + 1) * ws.getD i 0 * ws.getD b 0 ≤ (gs.getD i 0 + 1) * ws.getD n 0 * ws.getD b 0 := by
                have r1 : (gs.getD n 0 + 1) * ws.getD b 0 * ws.getD i 0 = (gs.getD n 0 + 1) * ws.getD i 0 * ws.getD b 0 := Int.mul_right_comm _ _ _
                have r2 : (gs.getD b 0 + 1) * ws.getD n 0 * ws.getD i 0 = (gs.getD b 0 + 1) * ws.getD i 0 * ws.getD n 0 := Int.mul_right_comm _ _ _
                have r3 : (gs.getD i 0 + 1) * ws.getD b 0 * ws.getD n 0 = (gs.getD i 0 + 1) * ws.getD n 0 * ws.getD b 0 := Int.mul_right_comm _ _ _
                omega
              exact Int.le_of_mul_le_mul_right e3 (by omega)
        · have : i = n := by omega
          subst this; exact Int.le_refl _
    · rw [if_neg hc]
      simp only [Bool.and_eq_true, decide_eq_true_eq, Bool.or_eq_true, Bool.not_eq_true', not_and, not_or] at hc
      refine ⟨fun hf i hi => ?_, fun ht => ?_⟩
      · rcases Nat.lt_or_ge i n with hin | hin
        · exact h1 hf i hin
        · have : i = n := by omega
          subst this
          rcases Int.lt_or_le (gs.getD i 0) (ds.getD i 0) with hq | hq
          · exact absurd hf (hc hq).1
          · exact hq
      · obtain ⟨b, hb, hbe, hbl, hbm⟩ := h2 ht
        refine ⟨b, by omega, hbe, hbl, fun i hi hlt => ?_⟩
        rcases Nat.lt_or_ge i n with hin | hin
        · exact hbm i hin hlt
        · have : i = n := by omega
          subst this
          have := (hc hlt).2
          rw [hbe, level_lt (hr i (by omega)) (hr b (by omega))] at this
          omega
/-- what holds of what was given out, after every unit -/
structure Fair (ws ds xs : List Int) (k : Nat) : Prop where
  len : xs.length = ws.length
  lo : ∀ i, i < ws.length → 0 ≤ xs.getD i 0
  hi : ∀ i, i < ws.length → xs.getD i 0 ≤ ds.getD i 0
  fair : ∀ i j, i < ws.length → j < ws.length → xs.getD i 0 < ds.getD i 0 → xs.getD j 0 * ws.getD i 0 ≤ (xs.getD i 0 + 1) * ws.getD j 0
  sum : sm (fun i => xs.getD i 0) ws.length = k ∨ (sm (fun i => xs.getD i 0) ws.length ≤ k ∧ ∀ i, i < ws.length → xs.getD i 0 = ds.getD i 0)

theorem fair_divN {ws ds : List Int} (hd : ds.length = ws.length) (hw : ∀ i, i < ws.length → isW (ws.getD i 0) = true ∧ isU (ds.getD i 0) = true) : ∀ k, Fair ws ds (divN ws ds k) k
  | 0 => by
    have hu : ∀ i, i < ws.length → 0 ≤ ds.getD i 0 := fun i hi => by
      have := (hw i hi).2
      simp only [isU, Bool.and_eq_true, decide_eq_true_eq] at this; omega
    have hww : ∀ i, i < ws.length → 1 ≤ ws.getD i 0 := fun i hi => by
      have := (hw i hi).1
      simp only [isW, Bool.and_eq_true, decide_eq_true_eq] at this; omega
    have e : ∀ i, (divN ws ds 0).getD i 0 = 0 := by
      intro i
      simp only [divN, List.getD_eq_getElem?_getD, List.getElem?_replicate]
      split <;> rfl
    refine ⟨divN_length ws ds 0, fun i hi => by rw [e]; exact Int.le_refl _, fun i hi => by rw [e]; exact hu i hi, fun i j hi hj _ => ?_, .inl ?_⟩
    · rw [e, e]
      have := hww j hj
      omega
    · rw [sm_congr (g := fun _ => 0) (fun i _ => e i), sm_zero]; rfl
  | k + 1 => by
    have ih := fair_divN hd hw k
    have hu : ∀ i, i < ws.length → 0 ≤ ds.getD i 0 ∧ ds.getD i 0 ≤ 65536 := fun i hi => by
      have := (hw i hi).2
      simp only [isU, Bool.and_eq_true, decide_eq_true_eq] at this; exact this
    have hww : ∀ i, i < ws.length → 1 ≤ ws.getD i 0 := fun i hi => by
      have := (hw i hi).1
      simp only [isW, Bool.and_eq_true, decide_eq_true_eq] at this; omega
    have hrt : ∀ i, i < ws.length → rated ws (divN ws ds k) i = true := fun i hi => by
      have h1 := (hw i hi).1
      have h2 := ih.lo i hi
      have h3 := ih.hi i hi
      have h4 := hu i hi
      have h5 := ih.len
      simp only [rated, isU, Bool.and_eq_true, decide_eq_true_eq, Int.toNat_natCast, h1, and_true]
      omega
    obtain ⟨m1, m2⟩ := firstN_min ws (divN ws ds k) ds hrt ws.length (Nat.le_refl _)
    unfold divN
    cases hok : (firstN ws (divN ws ds k) ds ws.length).2 with
    | false =>
      simp only [Bool.false_eq_true, if_false]
      have hs := m1 hok
      have heq : ∀ i, i < ws.length → (divN ws ds k).getD i 0 = ds.getD i 0 := fun i hi => by have := hs i hi; have := ih.hi i hi; omega
      refine ⟨ih.len, ih.lo, ih.hi, ih.fair, .inr ⟨?_, heq⟩⟩
      rcases ih.sum with h | h <;> omega
    | true =>
      simp only [if_true]
      obtain ⟨b, hb, hbe, hbl, hbm⟩ := m2 hok
      have hlb : b < (divN ws ds k).length := by rw [ih.len]; exact hb
      have hst : step1 ws ds (divN ws ds k) = (divN ws ds k).set b ((divN ws ds k).getD b 0 + 1) := by
        unfold step1; rw [hbe, Int.toNat_natCast]
      rw [hst]
      have hg : ∀ i, ((divN ws ds k).set b ((divN ws ds k).getD b 0 + 1)).getD i 0 = if i = b then (divN ws ds k).getD b 0 + 1 else (divN ws ds k).getD i 0 := fun i => getD_set _ b i _ hlb
      refine ⟨by rw [List.length_set]; exact ih.len, fun i hi => ?_, fun i hi => ?_, fun i j hi hj hlt => ?_, .inl ?_⟩
      · rw [hg]; split
        · have := ih.lo b hb; omega
        · exact ih.lo i hi
      · rw [hg]; split
        · rename_i e; subst e; omega
        · exact ih.hi i hi
      · rw [hg] at hlt
        rw [hg, hg]
        by_cases ei : i = b
        · subst ei
          rw [if_pos rfl] at hlt ⊢
          have h1 := hww i hi
          have h2 := hww j hj
          by_cases ej : j = i
          · subst ej
            rw [if_pos rfl]
            exact Int.mul_le_mul_of_nonneg_right (by omega) (by omega)
          · rw [if_neg ej]
            refine Int.le_trans (ih.fair i j hi hj hbl) (Int.mul_le_mul_of_nonneg_right (by omega) (by omega))
        · rw [if_neg ei] at hlt ⊢
          by_cases ej : j = b
          · subst ej
            rw [if_pos rfl]
            exact hbm i hi hlt
          · rw [if_neg ej]
            exact ih.fair i j hi hj hlt
      · rw [sm_bump (f := fun i => (divN ws ds k).getD i 0) (b := b) (fun i hi => by rw [hg, if_neg hi]) (by rw [hg, if_pos rfl]), if_pos hb]
        rcases ih.sum with h | h
        · rw [h]; rfl
        · have := h.2 b hb; omega

theorem Fair.total {ws ds xs : List Int} {k : Nat} (h : Fair ws ds xs k) : sm (fun i => xs.getD i 0) ws.length = min (k : Int) (sm (fun i => ds.getD i 0) ws.length) := by
  have h1 := sm_le (f := fun i => xs.getD i 0) (g := fun i => ds.getD i 0) (n := ws.length) h.hi
  rcases h.sum with h2 | ⟨h2, h3⟩
  · omega
  · have := sm_congr (f := fun i => xs.getD i 0) (g := fun i => ds.getD i 0) (n := ws.length) h3
    omega

theorem Fair.share {ws ds xs : List Int} {k : Nat} (h : Fair ws ds xs k) (hw : ∀ i, i < ws.length → 1 ≤ ws.getD i 0) {i : Nat} (hi : i < ws.length) (hn : xs.getD i 0 ≠ ds.getD i 0) :
    (k : Int) * ws.getD i 0 < (xs.getD i 0 + 1) * sm (fun j => ws.getD j 0) ws.length := by
  have hlt : xs.getD i 0 < ds.getD i 0 := by have := h.hi i hi; omega
  rcases h.sum with h2 | ⟨h2, h3⟩
  · rw [← h2, ← sm_mul, ← sm_mul']
    refine sm_lt (fun j hj => h.fair i j hi hj hlt) ⟨i, hi, ?_⟩
    have := hw i hi
    exact Int.mul_lt_mul_of_pos_right (by omega) (by omega)
  · exact absurd (h3 i hi) hn
end Go.Proofs.Ytcfkmkabjalgjab
