/- Contracts of functions, told of values, on the way to VirtualSteps. -/
import Derived.Test.YtabanfgnnelfcaaTyCa
import Derived.Test.YtabanfgnnelfcaaVtgCa
import Derived.Test.YtabanfgnnelfcaaVthCa
import Derived.Test.YtabanfgnnelfcaaVtoCa
-- NEWGO
-- PRUNE: cl_lendx
-- ISG: Its_isG
namespace Go.Proofs.Ytabanfgnnelfcaa
set_option linter.unusedVariables false
set_option linter.unusedSimpArgs false
open Go.Proofs.Ytabanfgnnelfcaa.Sh
set_option maxRecDepth 20000
theorem vAdd_len (c : Int) (l : List It) (id w : Int) : (vAdd c l id w).1.2.length ≤ l.length + 1 := by
  unfold vAdd
  have hk := bsV_le l id
  repeat' split
  all_goals first | exact Nat.zero_le _ | (simp only [ins_len _ _ _ hk]; omega)
theorem vDrop_len (c : Int) (l : List It) (id : Int) : (vDrop c l id).1.2.length ≤ l.length + 1 := by
  unfold vDrop
  repeat' split
  all_goals first | exact Nat.zero_le _ | skip
  rename_i hF
  have hk := (bsF_lt hF).1
  simp only [del_len _ _ hk]
  omega
theorem chg_len {c : Int} {l : List It} {id : Int} {F : Int × List It} {n : Nat} (h : F.2.length ≤ n) : (chg c l id F).1.2.length ≤ n := by
  unfold chg
  repeat' split
  all_goals first | exact Nat.zero_le _ | exact h
theorem rwQ_len (c : Int) (l : List It) (id w : Int) : (rwQ c l id w).1.2.length ≤ l.length := by
  unfold rwQ
  split
  · exact Nat.zero_le _
  · exact chg_len (by rw [rwF_len]; exact Nat.le_refl _)
def Qs (s : List (Int × List It)) : List Cell := s.flatMap fun p => [int p.1, .gsl (Its p.2) 0 p.2.length none]
theorem Qs_flat (s : List (Int × List It)) : flat (Qs s) := fun c hc => by
  unfold Qs at hc
  obtain ⟨p, _, h⟩ := List.mem_flatMap.1 hc
  simp only [List.mem_cons, List.not_mem_nil, or_false] at h
  rcases h with rfl | rfl <;> rfl
theorem Qs_ren (g : Nat → Option Nat) (s : List (Int × List It)) : (Qs s).map (Cell.ren g) = Qs s := by
  unfold Qs
  rw [List.map_flatMap]
  rfl
theorem Qs_at (s : List (Int × List It)) (i : Nat) (h : i < s.length) : ((Qs s).drop (i * 2)).take 2 = [int (s.getD i (0, [])).1, .gsl (Its (s.getD i (0, [])).2) 0 (s.getD i (0, [])).2.length none] :=
  flatMap_at (f := fun p : Int × List It => [int p.1, Cell.gsl (Its p.2) 0 p.2.length none]) (fun _ => rfl) (0, []) s i h
theorem Qs_len (s : List (Int × List It)) : (Qs s).length = s.length * 2 := flatMap_len (f := fun p : Int × List It => [int p.1, Cell.gsl (Its p.2) 0 p.2.length none]) (fun _ => rfl) s
end Go.Proofs.Ytabanfgnnelfcaa
