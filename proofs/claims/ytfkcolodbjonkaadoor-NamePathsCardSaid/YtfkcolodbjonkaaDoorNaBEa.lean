/- Contracts of functions, told of values, on the way to NamePaths. -/
import Derived.Test.YtfkcolodbjonkaaDoorTyEa
import Derived.Test.YtfkcolodbjonkaaDoorNaAEa
import Derived.Test.YtfkcolodbjonkaaDoorNa8Ea
-- NEWGO
-- PRUNE: cl_lendx cl_use
-- ISG: Strs_isG
-- FLAT: Strs_flat
namespace Go.Proofs.YtfkcolodbjonkaaDoor
set_option linter.unusedVariables false
set_option linter.unusedSimpArgs false
open Go.Proofs.YtfkcolodbjonkaaDoor.Sh
set_option maxRecDepth 20000
theorem jn_cons (x : Str) (r : List Str) (c : UInt8) (h : r ≠ []) : jn (x :: r) [c] = x ++ c :: jn r [c] := by
  cases r with
  | nil => exact absurd rfl h
  | cons y r =>
    unfold jn
    rw [Lib.join_cons, Lib.join_cons]
    simp [Lib.joinTail]
theorem pn_len (l : List Int) (i : Nat) : (ptV l i).1.length ≤ 1000 := by
  have h1 := nx_rng l i 5 (by omega)
  have h2 := pnS_len l (nxA l i 5) (nxV l i 5).toNat
  unfold ptV ptK
  have h3 := wdV_len l (nxA l (pnS l (nxA l i 5) (nxV l i 5).toNat).2 8)
  split
  · simp only [List.length_append, List.length_cons, List.length_nil]; omega
  · split
    · simp only [List.length_append]; omega
    · simp only; omega
end Go.Proofs.YtfkcolodbjonkaaDoor
