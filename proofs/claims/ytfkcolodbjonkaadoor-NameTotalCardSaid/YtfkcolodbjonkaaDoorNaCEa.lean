/- Contracts of functions, told of values, on the way to NameTotal. -/
import Derived.Test.YtfkcolodbjonkaaDoorTyEa
import Derived.Test.YtfkcolodbjonkaaDoorNaBEa
-- NEWGO
-- PRUNE: cl_lendx cl_use
-- ISG: Strs_isG
-- FLAT: Strs_flat
namespace Go.Proofs.YtfkcolodbjonkaaDoor
set_option linter.unusedVariables false
set_option linter.unusedSimpArgs false
open Go.Proofs.YtfkcolodbjonkaaDoor.Sh
set_option maxRecDepth 20000
theorem alk_full : ∀ p a : List Str, alk p a = p.length ↔ p <+: a
  | [], a => ⟨fun _ => List.nil_prefix, fun _ => by cases a <;> rfl⟩
  | p :: x, [] => ⟨fun (h : 0 = _) => (by cases h), fun h => (by have := h.length_le; simp at this)⟩
  | p :: x, a :: y => by
    unfold alk
    by_cases h : p = a
    · subst h
      rw [if_pos rfl, List.length_cons, List.cons_prefix_cons]
      have := alk_full x y
      constructor
      · intro q; exact ⟨rfl, this.1 (by omega)⟩
      · intro q; have := this.2 q.2; omega
    · rw [if_neg h, List.length_cons]
      constructor
      · intro q; omega
      · intro q; exact absurd (List.cons_prefix_cons.1 q).1 h
theorem pUn_iff (a b : Str) : pUn a b = true ↔ (pSp a).2 = 0 ∧ (pSp b).2 = 0 ∧ (pSp a).1 <+: (pSp b).1 := by
  unfold pUn
  rw [Bool.and_eq_true, Bool.and_eq_true, decide_eq_true_eq, decide_eq_true_eq, decide_eq_true_eq, ← alk_full]
  constructor
  · intro h; exact ⟨h.1, h.2.1, by omega⟩
  · intro h; exact ⟨h.1, h.2.1, by omega⟩
end Go.Proofs.YtfkcolodbjonkaaDoor
