/- Contracts of functions, told of values, on the way to NameTotal. -/
import Derived.Test.YtfkcolodbjonkaaDoorTyEa
import Derived.Test.YtfkcolodbjonkaaDoorNaAEa
import Derived.Test.YtfkcolodbjonkaaDoorNa8Ea
-- NEWGO
-- PRUNE: cl_lendx cl_use
-- ISG: Strs_isG
-- FLAT: Strs_flat
namespace Go.Proofs.YtfkcolodbjonkaaDoor
set_option linter.unusedVariables false
set_option linter.unusedSimpArgs false
open Go.Proofs.YtfkcolodbjonkaaDoor.Sh
set_option maxRecDepth 20000
theorem jn_cons (x : Str) (r : List Str) (c : UInt8) (h : r ≠ []) : jn (x :: r) [c] = x ++ c :: jn r [c] := by
  cases r with
  | nil => exact absurd rfl h
  | cons y r =>
    unfold jn
    rw [Lib.join_cons, Lib.join_cons]
    simp [Lib.joinTail]
theorem spl_ne (c : UInt8) (s w : Str) : spl c s w ≠ [] := by
  intro h
  have := spl_len c s w
  rw [h] at this; cases this
theorem jn_spl (c : UInt8) : ∀ s w, jn (spl c s w) [c] = w ++ s
  | [], w => by
    show Lib.join [w] [c] = _
    rw [Lib.join_one, List.append_nil]
  | b :: r, w => by
    rw [spl_cons]
    by_cases hb : b = c
    · subst hb
      rw [if_pos rfl, jn_cons _ _ _ (spl_ne _ _ _), jn_spl b r []]
      rfl
    · rw [if_neg hb, jn_spl c r (w ++ [b])]
      simp
theorem take1_cons {s : Str} {c : UInt8} (h : s.take 1 = [c]) : c :: s.drop 1 = s := by
  cases s with
  | nil => cases h
  | cons a r =>
    have : a = c := by simpa using h
    subst this; rfl
theorem bkJoin (s : Str) (h : (pSp s).2 = 0) : pJn (pSp s).1 = (s, 0) := by
  unfold pSp at h ⊢
  by_cases ha : s.take 1 = [47]
  case neg => rw [if_neg ha] at h; cases h
  rw [if_pos ha] at h ⊢
  by_cases hb : s = [47]
  · rw [if_pos hb, hb]; rfl
  rw [if_neg hb] at h ⊢
  by_cases hc : chkP (spl 47 (s.drop 1) []) = 0
  · rw [if_pos hc]
    unfold pJn
    rw [if_pos hc, jn_spl, List.nil_append, take1_cons ha]
  · rw [if_neg hc] at h; exact absurd h hc
theorem pn_len (l : List Int) (i : Nat) : (ptV l i).1.length ≤ 1000 := by
  have h1 := nx_rng l i 5 (by omega)
  have h2 := pnS_len l (nxA l i 5) (nxV l i 5).toNat
  unfold ptV ptK
  have h3 := wdV_len l (nxA l (pnS l (nxA l i 5) (nxV l i 5).toNat).2 8)
  split
  · simp only [List.length_append, List.length_cons, List.length_nil]; omega
  · split
    · simp only [List.length_append]; omega
    · simp only; omega
end Go.Proofs.YtfkcolodbjonkaaDoor
