/- Contracts of functions, told of values, on the way to DivideScales. -/
import Derived.Test.YtcfkmkabjalgjaaTyAa
import Derived.Test.YtcfkmkabjalgjaaDvStepsAa
namespace Go.Proofs.Ytcfkmkabjalgjaa
set_option linter.unusedVariables false
set_option linter.unusedSimpArgs false
open Go.Proofs.Ytcfkmkabjalgjaa.Sh
/-- weights by the same number -/
theorem firstN_scale {ws gs ds : List Int} {m : Int} (hm : 1 ≤ m) (h1 : ∀ i, i < ws.length → rated ws gs i = true) (h2 : ∀ i, i < ws.length → rated (ws.map (· * m)) gs i = true) :
    ∀ n, n ≤ ws.length → firstN (ws.map (· * m)) gs ds n = firstN ws gs ds n
  | 0, _ => rfl
  | n + 1, hn => by
    have ih := firstN_scale (ds := ds) hm h1 h2 n (by omega)
    have e : ∀ i, i < ws.length → (ws.map (· * m)).getD i 0 = ws.getD i 0 * m := fun i hi => by
      simp [List.getD_eq_getElem?_getD, hi]
    unfold firstN
    rw [ih]
    have hc : (decide (gs.getD n 0 < ds.getD n 0) && (!(firstN ws gs ds n).2 || decide (level (ws.map (· * m)) gs n (firstN ws gs ds n).1 < 0))) = (decide (gs.getD n 0 < ds.getD n 0) && (!(firstN ws gs ds n).2 || decide (level ws gs n (firstN ws gs ds n).1 < 0))) := by
      cases hq : (firstN ws gs ds n).2 with
      | false => simp
      | true =>
        obtain ⟨g1, g2⟩ := firstN_lt ws gs ds n hq
        obtain ⟨b, hb⟩ : ∃ b : Nat, (firstN ws gs ds n).1 = (b : Int) := ⟨(firstN ws gs ds n).1.toNat, by omega⟩
        rw [hb] at g2 ⊢
        have hbn : b < ws.length := by omega
        congr 2
        rw [decide_eq_decide, level_lt (h2 n (by omega)) (h2 b hbn), level_lt (h1 n (by omega)) (h1 b hbn), e n (by omega), e b hbn, ← Int.mul_assoc, ← Int.mul_assoc]
        exact ⟨fun h => Int.lt_of_mul_lt_mul_right h (by omega), fun h => Int.mul_lt_mul_of_pos_right h (by omega)⟩
    rw [hc]
theorem rated_of {ws gs : List Int} {i : Nat} (hw : isW (ws.getD i 0) = true) (hi : i < ws.length) (hl : gs.length = ws.length) (h : 0 ≤ gs.getD i 0 ∧ gs.getD i 0 ≤ 65536) : rated ws gs i = true := by
  simp only [rated, isU, Bool.and_eq_true, decide_eq_true_eq, Int.toNat_natCast, hw, and_true]
  omega
theorem divN_scale {ws ds : List Int} {m : Int} (hm : 1 ≤ m) (hd : ds.length = ws.length) (hw : ∀ i, i < ws.length → isW (ws.getD i 0) = true ∧ isU (ds.getD i 0) = true) (hw2 : ∀ i, i < ws.length → isW ((ws.map (· * m)).getD i 0) = true) :
    ∀ k, divN (ws.map (· * m)) ds k = divN ws ds k
  | 0 => by simp [divN]
  | k + 1 => by
    have ih := divN_scale hm hd hw hw2 k
    have hf := fair_divN hd hw k
    have hg : ∀ i, i < ws.length → 0 ≤ (divN ws ds k).getD i 0 ∧ (divN ws ds k).getD i 0 ≤ 65536 := fun i hi => by
      have h1 := hf.lo i hi
      have h2 := hf.hi i hi
      have h3 := (hw i hi).2
      simp only [isU, Bool.and_eq_true, decide_eq_true_eq] at h3
      omega
    have e := firstN_scale (ds := ds) hm (fun i hi => rated_of (hw i hi).1 hi hf.len (hg i hi)) (fun i hi => rated_of (gs := divN ws ds k) (hw2 i hi) (by simpa using hi) (by simpa using hf.len) (hg i hi)) ws.length (Nat.le_refl _)
    rw [divN, divN, ih, List.length_map, e]
    unfold step1
    rw [List.length_map, e]
/-- units that are given out in turn -/
def turn (L k : Nat) (i : Nat) : Int := (k / L : Nat) + (if i < k % L then 1 else 0)
theorem rep_getD (L : Nat) (x : Int) (i : Nat) (h : i < L) : (List.replicate L x).getD i 0 = x := by
  simp [List.getD_eq_getElem?_getD, h]
theorem turn_step {L k i : Nat} (hL : 0 < L) (hi : i < L) : turn L (k + 1) i = if i = k % L then turn L k i + 1 else turn L k i := by
  have hd := Nat.div_add_mod k L
  have hm := Nat.mod_lt k hL
  unfold turn
  by_cases c : k % L + 1 = L
  · have e1 : (k + 1) / L = k / L + 1 := by
      have : k + 1 = L * (k / L + 1) := by rw [Nat.mul_add, Nat.mul_one]; omega
      rw [this, Nat.mul_div_cancel_left _ hL]
    have e2 : (k + 1) % L = 0 := by
      have : k + 1 = L * (k / L + 1) := by rw [Nat.mul_add, Nat.mul_one]; omega
      rw [this, Nat.mul_mod_right]
    rw [e1, e2]
    by_cases e : i = k % L
    · rw [if_pos e, if_neg (by omega), if_neg (by omega)]; omega
    · rw [if_neg e, if_neg (by omega), if_pos (by omega)]; omega
  · have e1 : (k + 1) / L = k / L := by
      have : k + 1 = L * (k / L) + (k % L + 1) := by omega
      rw [this, Nat.mul_add_div hL, Nat.div_eq_of_lt (show k % L + 1 < L by omega), Nat.add_zero]
    have e2 : (k + 1) % L = k % L + 1 := by
      have : k + 1 = L * (k / L) + (k % L + 1) := by omega
      rw [this, Nat.mul_add_mod, Nat.mod_eq_of_lt (show k % L + 1 < L by omega)]
    rw [e1, e2]
    by_cases e : i = k % L
    · rw [if_pos e, if_pos (by omega), if_neg (by omega)]; omega
    · rw [if_neg e]
      by_cases h : i < k % L
      · rw [if_pos (by omega), if_pos h]
      · rw [if_neg (by omega), if_neg h]
theorem divN_turn {L : Nat} (hL : 0 < L) : ∀ k, k ≤ 2000 → ∀ i, i < L → (divN (List.replicate L 7) (List.replicate L 65536) k).getD i 0 = turn L k i
  | 0, _, i, hi => by
    have : turn L 0 i = 0 := by unfold turn; simp
    rw [this]
    simp only [divN, List.getD_eq_getElem?_getD, List.getElem?_replicate]
    split <;> rfl
  | k + 1, hk, i, hi => by
    have ih := divN_turn hL k (by omega)
    have hlen := divN_length (List.replicate L 7) (List.replicate L 65536) k
    rw [List.length_replicate] at hlen
    have hb : ∀ j, turn L k j ≤ 2001 := fun j => by
      have := Nat.div_le_self k L
      unfold turn
      generalize k / L = q at *
      split <;> omega
    have hb0 : ∀ j, 0 ≤ turn L k j := fun j => by
      unfold turn
      generalize k / L = q at *
      split <;> omega
    have hr : ∀ j, j < (List.replicate L (7 : Int)).length → rated (List.replicate L 7) (divN (List.replicate L 7) (List.replicate L 65536) k) j = true := fun j hj => by
      rw [List.length_replicate] at hj
      exact rated_of (by rw [rep_getD L 7 j hj]; decide) (by simpa using hj) (by simpa using hlen) (by rw [ih j hj]; have := hb j; have := hb0 j; omega)
    obtain ⟨m1, m2⟩ := firstN_min (List.replicate L 7) (divN (List.replicate L 7) (List.replicate L 65536) k) (List.replicate L 65536) hr (List.replicate L (7 : Int)).length (Nat.le_refl _)
    have mf := firstN_first (List.replicate L 7) (divN (List.replicate L 7) (List.replicate L 65536) k) (List.replicate L 65536) hr (List.replicate L (7 : Int)).length (Nat.le_refl _)
    rw [divN]
    generalize hF : firstN (List.replicate L 7) (divN (List.replicate L 7) (List.replicate L 65536) k) (List.replicate L 65536) (List.replicate L (7 : Int)).length = F at *
    cases hq : F.2 with
    | false =>
      have := m1 hq 0 (by simpa using hL)
      rw [rep_getD L 65536 0 hL, ih 0 hL] at this
      have := hb 0; omega
    | true =>
      obtain ⟨b, hbl, hbe, hbd, hbm⟩ := m2 hq
      rw [List.length_replicate] at hbl hbm
      have hbf := mf b hq hbe
      have hmod := Nat.mod_lt k hL
      have eb : b = k % L := by
        have g1 := hbm (k % L) hmod (by rw [rep_getD L 65536 _ hmod, ih _ hmod]; have := hb (k % L); omega)
        rw [rep_getD L 7 _ hmod, rep_getD L 7 _ hbl, ih _ hmod, ih _ hbl] at g1
        rcases Nat.lt_or_ge (k % L) b with hlt | hge
        · have g2 := hbf (k % L) hlt (by rw [rep_getD L 65536 _ hmod, ih _ hmod]; have := hb (k % L); omega)
          rw [rep_getD L 7 _ hmod, rep_getD L 7 _ hbl, ih _ hmod, ih _ hbl] at g2
          unfold turn at g2
          rw [if_neg (by omega), if_neg (by omega)] at g2
          omega
        · rcases Nat.lt_or_ge b (k % L) with hlt | hge2
          · unfold turn at g1
            rw [if_pos hlt, if_neg (by omega)] at g1
            omega
          · omega
      have hst : step1 (List.replicate L 7) (List.replicate L 65536) (divN (List.replicate L 7) (List.replicate L 65536) k) = (divN (List.replicate L 7) (List.replicate L 65536) k).set b ((divN (List.replicate L 7) (List.replicate L 65536) k).getD b 0 + 1) := by
        unfold step1; rw [hF, hbe, Int.toNat_natCast]
      rw [if_pos rfl, hst, getD_set _ b i _ (by omega), turn_step hL hi, ih b hbl]
      by_cases e : i = b
      · rw [if_pos e, if_pos (by omega), e]
      · rw [if_neg e, if_neg (by omega), ih i hi]
end Go.Proofs.Ytcfkmkabjalgjaa
