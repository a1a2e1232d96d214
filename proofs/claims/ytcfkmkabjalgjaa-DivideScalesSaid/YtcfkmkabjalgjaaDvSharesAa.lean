/- Contracts of functions, told of values, on the way to DivideScales. -/
import Derived.Test.YtcfkmkabjalgjaaTyAa
import Derived.Test.YtcfkmkabjalgjaaDvDAa
import Derived.Test.YtcfkmkabjalgjaaDvMAa
namespace Go.Proofs.Ytcfkmkabjalgjaa
set_option linter.unusedVariables false
set_option linter.unusedSimpArgs false
open Go.Proofs.Ytcfkmkabjalgjaa.Sh Go.RowKit
theorem wtV_W (l : List Int) (i : Nat) : isW (wtV l i) = true := by
  have h1 := nxV_rng l i 1000 (by omega)
  have h2 := nxV_rng l (nxA l i 1000) 8 (by omega)
  have : ∀ (k : Nat) (a : Int), k < 8 → 0 ≤ a ∧ a < 1000 → isW ([1, 100, 300, 10000, 50, 200, 7, 1 + a].getD k 0) = true := by
    intro k a hk ha
    match k, hk with
    | 0, _ => rfl
    | 1, _ => rfl
    | 2, _ => rfl
    | 3, _ => rfl
    | 4, _ => rfl
    | 5, _ => rfl
    | 6, _ => rfl
    | 7, _ =>
      show isW (1 + a) = true
      simp only [isW, Bool.and_eq_true, decide_eq_true_eq]; omega
  exact this _ _ (by omega) h1
theorem dmV_U (l : List Int) (i : Nat) : isU (dmV l i) = true := by
  have h1 := nxV_rng l i 40 (by omega)
  have h2 := nxV_rng l (nxA l i 40) 5 (by omega)
  have : ∀ (k : Nat) (a : Int), k < 5 → 0 ≤ a ∧ a < 40 → isU ([0, 3, 1000, 65536, a].getD k 0) = true := by
    intro k a hk ha
    match k, hk with
    | 0, _ => rfl
    | 1, _ => rfl
    | 2, _ => rfl
    | 3, _ => rfl
    | 4, _ =>
      show isU a = true
      simp only [isU, Bool.and_eq_true, decide_eq_true_eq]; omega
  exact this _ _ (by omega) h1
theorem getD_snoc (xs : List Int) (v : Int) (i : Nat) : (xs ++ [v]).getD i 0 = if i = xs.length then v else xs.getD i 0 := by
  simp only [List.getD_eq_getElem?_getD, List.getElem?_append]
  rcases Nat.lt_trichotomy i xs.length with h | h | h
  · rw [if_pos h, if_neg (by omega)]
  · subst h; simp
  · rw [if_neg (by omega), if_neg (by omega), List.getElem?_eq_none (by simp; omega), List.getElem?_eq_none (by omega)]
theorem wsN_W (l : List Int) (i : Nat) : ∀ n j, j < n → isW ((wsN l i n).1.getD j 0) = true
  | n + 1, j, h => by
    simp only [wsN]
    rw [getD_snoc, wsN_length]
    split
    · exact wtV_W _ _
    · exact wsN_W l i n j (by omega)
theorem dmN_U (l : List Int) (i : Nat) : ∀ n j, j < n → isU ((dmN l i n).1.getD j 0) = true
  | n + 1, j, h => by
    simp only [dmN]
    rw [getD_snoc, dmN_length]
    split
    · exact dmV_U _ _
    · exact dmN_U l i n j (by omega)
theorem drK_le (l : List Int) (i : Nat) : drK l i ≤ 5 := by
  have := nxV_rng l i 6 (by omega)
  unfold drK; omega
theorem drW_len (l : List Int) (i : Nat) : (drW l i).1.length = drK l i := wsN_length _ _ _
theorem drD_len (l : List Int) (i : Nat) : (drD l i).1.length = drK l i := dmN_length _ _ _
theorem drWD (l : List Int) (i : Nat) : ∀ j, j < (drW l i).1.length → isW ((drW l i).1.getD j 0) = true ∧ isU ((drD l i).1.getD j 0) = true := by
  intro j hj
  rw [drW_len] at hj
  exact ⟨wsN_W _ _ _ j hj, dmN_U _ _ _ j hj⟩
theorem drValid (l : List Int) (i : Nat) (t : Int) (ht : 0 ≤ t ∧ t ≤ 65536) : valid t (drW l i).1 (drD l i).1 = true := by
  have h1 := drK_le l i
  have h2 := drW_len l i
  have h3 := drD_len l i
  have h4 := drWD l i
  have ht' : isU t = true := by simp only [isU, Bool.and_eq_true, decide_eq_true_eq]; exact ht
  simp only [valid, validTo, Bool.and_eq_true, Bool.not_eq_true', Bool.or_eq_false_iff, Bool.not_eq_false', decide_eq_true_eq, decide_eq_false_iff_not, List.all_eq_true, List.mem_range]
  exact ⟨⟨⟨ht', by omega⟩, by omega⟩, h4⟩
end Go.Proofs.Ytcfkmkabjalgjaa
