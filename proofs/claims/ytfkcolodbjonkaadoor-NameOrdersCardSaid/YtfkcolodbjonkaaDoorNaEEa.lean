/- Contracts of functions, told of values, on the way to NameOrders. -/
import Derived.Test.YtfkcolodbjonkaaDoorTyEa
import Derived.Test.YtfkcolodbjonkaaDoorNaCEa
import Derived.Sort.Walk0
-- NEWGO
-- PRUNE: cl_lendx cl_use cl_lend
-- ISG: Strs_isG
-- FLAT: Strs_flat
namespace Go.Proofs.YtfkcolodbjonkaaDoor
set_option linter.unusedVariables false
set_option linter.unusedSimpArgs false
open Go.Proofs.YtfkcolodbjonkaaDoor.Sh
set_option maxRecDepth 20000
abbrev cmpB (a b : Str) : Int := Lib.compareBytes a b
theorem cmpB_cons (a b : UInt8) (x y : Str) : cmpB (a :: x) (b :: y) = if a < b then -1 else if b < a then 1 else cmpB x y := rfl
theorem u8_eq {a b : UInt8} (h : ¬ a < b) (h2 : ¬ b < a) : a = b := UInt8.le_antisymm (UInt8.not_lt.1 h2) (UInt8.not_lt.1 h)
theorem cmpB_zero : ∀ a b : Str, cmpB a b = 0 ↔ a = b
  | [], [] => ⟨fun _ => rfl, fun _ => rfl⟩
  | [], _ :: _ => ⟨fun h => (by cases h), fun h => (by cases h)⟩
  | _ :: _, [] => ⟨fun h => (by cases h), fun h => (by cases h)⟩
  | a :: x, b :: y => by
    rw [cmpB_cons]
    by_cases h : a < b
    · rw [if_pos h]
      exact ⟨fun q => (by cases q), fun q => by rw [(List.cons.inj q).1] at h; exact absurd h (UInt8.lt_irrefl _)⟩
    · by_cases h2 : b < a
      · rw [if_neg h, if_pos h2]
        exact ⟨fun q => (by cases q), fun q => by rw [(List.cons.inj q).1] at h2; exact absurd h2 (UInt8.lt_irrefl _)⟩
      · rw [if_neg h, if_neg h2, cmpB_zero x y, u8_eq h h2]
        exact ⟨fun q => by rw [q], fun q => (List.cons.inj q).2⟩
theorem cmpB_rng : ∀ a b : Str, -1 ≤ cmpB a b ∧ cmpB a b ≤ 1
  | [], [] => ⟨by show (-1 : Int) ≤ 0; decide, by show (0 : Int) ≤ 1; decide⟩
  | [], _ :: _ => ⟨by show (-1 : Int) ≤ -1; decide, by show (-1 : Int) ≤ 1; decide⟩
  | _ :: _, [] => ⟨by show (-1 : Int) ≤ 1; decide, by show (1 : Int) ≤ 1; decide⟩
  | a :: x, b :: y => by
    rw [cmpB_cons]
    split
    · decide
    · split
      · decide
      · exact cmpB_rng x y
theorem less_cmp : ∀ a b : Str, Op.bytesLess a b = decide (cmpB a b < 0)
  | [], [] => rfl
  | [], _ :: _ => rfl
  | _ :: _, [] => rfl
  | a :: x, b :: y => by
    rw [cmpB_cons, Op.bytesLess, less_cmp x y]
    by_cases h : a < b
    · rw [if_pos h]; simp [h]
    · by_cases h2 : b < a
      · rw [if_neg h, if_pos h2]
        have : ¬ a = b := fun e => by subst e; exact h h2
        simp [h, this]
      · rw [if_neg h, if_neg h2]
        have := u8_eq h h2
        subst this
        simp
theorem bs_less (a b : Str) : Op.bytesLess (bs a).toList (bs b).toList = decide (cmpB a b < 0) := by rw [bs_toList, bs_toList, less_cmp]
def cmpL : List Str → List Str → Int
  | [], [] => 0
  | [], _ :: _ => -1
  | _ :: _, [] => 1
  | a :: x, b :: y => if cmpB a b = 0 then cmpL x y else cmpB a b
def pCp (a b : Str) : Int :=
  if (pSp a).2 = 0 then if (pSp b).2 = 0 then cmpL (pSp a).1 (pSp b).1 else -1
  else if (pSp b).2 = 0 then 1 else cmpB a b
end Go.Proofs.YtfkcolodbjonkaaDoor
