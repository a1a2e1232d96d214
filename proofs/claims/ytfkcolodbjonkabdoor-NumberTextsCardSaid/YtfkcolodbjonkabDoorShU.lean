/- Rows of truths; rows that are frozen at the end. -/
import Derived.Test.YtfkcolodbjonkabDoorShW
namespace Go.Proofs.YtfkcolodbjonkabDoor.Sh
open Go.RowKit
set_option linter.unusedVariables false
set_option linter.unusedSimpArgs false

def Bools (xs : List Bool) : List Cell := xs.map bool
theorem Bools_length (xs : List Bool) : (Bools xs).length = xs.length := by simp [Bools]
theorem Bools_getD (xs : List Bool) (i : Nat) : (Bools xs).getD i (.sc (.bool false)) = bool (xs.getD i false) := by
  simp only [Bools, List.getD_eq_getElem?_getD, List.getElem?_map]
  cases xs[i]? <;> rfl
theorem Bools_set (xs : List Bool) (i : Nat) (b : Bool) : (Bools xs).set i (.sc (.bool b)) = Bools (xs.set i b) := by simp [Bools, List.map_set]
theorem Bools_rep (n : Nat) (b : Bool) : List.replicate n (Cell.sc (.bool b)) = Bools (List.replicate n b) := by simp [Bools]
theorem flat_bools (xs : List Bool) : flat (Bools xs) := by
  intro c hc
  obtain ⟨b, _, rfl⟩ := List.mem_map.1 hc
  rfl
attribute [go_sem] Bools_length Bools_getD Bools_set Bools_rep

theorem gt_true (p q : Prop) : Sh.GT true p q = p := by simp [Sh.GT]
theorem gt_false (p q : Prop) : Sh.GT false p q = q := by simp [Sh.GT]
theorem pt_true (p q : Prop) : PT true p q = p := by simp [PT]
theorem pt_false (p q : Prop) : PT false p q = q := by simp [PT]
attribute [go_sem] gt_true gt_false pt_true pt_false
theorem gt_if {t : Bool} {p q : Prop} (h1 : t = true → p) (h2 : t = false → q) : Sh.GT t p q := ⟨h1, h2⟩
end Go.Proofs.YtfkcolodbjonkabDoor.Sh
