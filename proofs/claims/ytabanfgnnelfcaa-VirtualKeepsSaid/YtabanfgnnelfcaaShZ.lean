/- More words: functions that are not there; rows of structs, read at a place. -/
import Derived.Test.YtabanfgnnelfcaaShY
namespace Go.Proofs.Ytabanfgnnelfcaa.Sh
open Go.RowKit
set_option linter.unusedVariables false
set_option linter.unusedSimpArgs false

theorem ofV_nilFunc : ofV .nilFunc = V .nilFunc := rfl
attribute [go_sem] ofV_nilFunc

theorem flatMap_len {α : Type} {f : α → List Cell} {n : Nat} (hf : ∀ x, (f x).length = n) : ∀ xs : List α, (xs.flatMap f).length = xs.length * n
  | [] => by simp
  | x :: xs => by rw [List.flatMap_cons, List.length_append, hf, flatMap_len hf xs, List.length_cons, Nat.add_mul]; omega
theorem flatMap_at {α : Type} {f : α → List Cell} {n : Nat} (hf : ∀ x, (f x).length = n) (z : α) : ∀ (xs : List α) (i : Nat), i < xs.length → ((xs.flatMap f).drop (i * n)).take n = f (xs.getD i z)
  | [], i, h => by simp at h
  | x :: xs, 0, _ => by
    rw [Nat.zero_mul, List.drop_zero, List.flatMap_cons, List.take_append_of_le_length (by rw [hf]; exact Nat.le_refl _), List.take_of_length_le (by rw [hf]; exact Nat.le_refl _)]
    rfl
  | x :: xs, i + 1, h => by
    have e : (i + 1) * n = (f x).length + i * n := by rw [hf, Nat.add_mul]; omega
    rw [List.flatMap_cons, e, List.drop_append, List.drop_of_length_le (by omega), List.nil_append, Nat.add_sub_cancel_left]
    rw [flatMap_at hf z xs i (by simpa using h)]
    rfl
theorem flatMap_fld {α : Type} {f : α → List Cell} {n : Nat} (hf : ∀ x, (f x).length = n) (z : α) (xs : List α) (i o : Nat) (d : Cell) (h : i < xs.length) (ho : o < n) : (xs.flatMap f).getD (i * n + o) d = (f (xs.getD i z)).getD o d := by
  have h1 := flatMap_at hf z xs i h
  rw [← h1]
  simp only [List.getD_eq_getElem?_getD, List.getElem?_take_of_lt ho, List.getElem?_drop]
end Go.Proofs.Ytabanfgnnelfcaa.Sh
