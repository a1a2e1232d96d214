/- Rows of truths; rows that are frozen at the end. -/
import Derived.Test.YtfkcolodbjonkaaDoorShW
namespace Go.Proofs.YtfkcolodbjonkaaDoor.Sh
open Go.RowKit
set_option linter.unusedVariables false
set_option linter.unusedSimpArgs false

def Bools (xs : List Bool) : List Cell := xs.map bool
theorem Bools_length (xs : List Bool) : (Bools xs).length = xs.length := by simp [Bools]
theorem Bools_getD (xs : List Bool) (i : Nat) : (Bools xs).getD i (.sc (.bool false)) = bool (xs.getD i false) := by
  simp only [Bools, List.getD_eq_getElem?_getD, List.getElem?_map]
  cases xs[i]? <;> rfl
theorem Bools_set (xs : List Bool) (i : Nat) (b : Bool) : (Bools xs).set i (.sc (.bool b)) = Bools (xs.set i b) := by simp [Bools, List.map_set]
theorem Bools_frz (r : Nat) (cells : List Cell) (xs : List Bool) : (Bools xs).map (Cell.frz r cells) = Bools xs := by
  simp only [Bools, List.map_map]; apply List.map_congr_left; intros; rfl
theorem Bools_rep (n : Nat) (b : Bool) : List.replicate n (Cell.sc (.bool b)) = Bools (List.replicate n b) := by simp [Bools]
theorem flat_bools (xs : List Bool) : flat (Bools xs) := by
  intro c hc
  obtain ⟨b, _, rfl⟩ := List.mem_map.1 hc
  rfl
theorem Bools_isG (xs : List Bool) : ∀ c ∈ Bools xs, c.isG = true := by
  intro c hc
  obtain ⟨b, _, rfl⟩ := List.mem_map.1 hc
  rfl
attribute [go_sem] Bools_length Bools_getD Bools_set Bools_rep

theorem fs_frz {T : Tab} {rs : List ResultVar} {k : Nat} {res : SV} {outs : List (Option Row)} {s : St} (r : Nat) (row : Row) (hr : s.hpF r = some row) (hg : ∀ c ∈ row.cells, c.isG = true)
    (h : FS T rs k res outs ⟨frzTm r row.cells s.tm, (r, none) :: frzHp r row.cells s.hp, s.nx⟩) : FS T rs k res outs s := fs_imp _ (imp_frz k s r row hr hg) h
theorem gt_true (p q : Prop) : Sh.GT true p q = p := by simp [Sh.GT]
theorem gt_false (p q : Prop) : Sh.GT false p q = q := by simp [Sh.GT]
theorem pt_true (p q : Prop) : PT true p q = p := by simp [PT]
theorem pt_false (p q : Prop) : PT false p q = q := by simp [PT]
attribute [go_sem] gt_true gt_false pt_true pt_false
theorem gt_if {t : Bool} {p q : Prop} (h1 : t = true → p) (h2 : t = false → q) : Sh.GT t p q := ⟨h1, h2⟩
end Go.Proofs.YtfkcolodbjonkaaDoor.Sh
