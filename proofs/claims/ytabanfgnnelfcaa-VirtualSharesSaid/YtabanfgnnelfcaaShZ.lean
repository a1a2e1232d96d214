/- More words: functions that are not there; rows of structs, read at a place. -/
import Derived.Test.YtabanfgnnelfcaaShY
namespace Go.Proofs.Ytabanfgnnelfcaa.Sh
open Go.RowKit
set_option linter.unusedVariables false
set_option linter.unusedSimpArgs false

theorem ofV_nilFunc : ofV .nilFunc = V .nilFunc := rfl
attribute [go_sem] ofV_nilFunc

theorem flatMap_len {α : Type} {f : α → List Cell} {n : Nat} (hf : ∀ x, (f x).length = n) : ∀ xs : List α, (xs.flatMap f).length = xs.length * n
  | [] => by simp
  | x :: xs => by rw [List.flatMap_cons, List.length_append, hf, flatMap_len hf xs, List.length_cons, Nat.add_mul]; omega
theorem flatMap_at {α : Type} {f : α → List Cell} {n : Nat} (hf : ∀ x, (f x).length = n) (z : α) : ∀ (xs : List α) (i : Nat), i < xs.length → ((xs.flatMap f).drop (i * n)).take n = f (xs.getD i z)
  | [], i, h => by simp at h
  | x :: xs, 0, _ => by
    rw [Nat.zero_mul, List.drop_zero, List.flatMap_cons, List.take_append_of_le_length (by rw [hf]; exact Nat.le_refl _), List.take_of_length_le (by rw [hf]; exact Nat.le_refl _)]
    rfl
  | x :: xs, i + 1, h => by
    have e : (i + 1) * n = (f x).length + i * n := by rw [hf, Nat.add_mul]; omega
    rw [List.flatMap_cons, e, List.drop_append, List.drop_of_length_le (by omega), List.nil_append, Nat.add_sub_cancel_left]
    rw [flatMap_at hf z xs i (by simpa using h)]
    rfl
theorem flatMap_set {α : Type} {f : α → List Cell} {n : Nat} (hf : ∀ x, (f x).length = n) (v : α) : ∀ (xs : List α) (i : Nat), i < xs.length → putAt (xs.flatMap f) (i * n) (f v) = (xs.set i v).flatMap f := by
  have pat : ∀ (new a b : List Cell) (k : Nat), k = a.length → new.length ≤ b.length → putAt (a ++ b) k new = a ++ new ++ b.drop new.length := by
    intro new
    induction new with
    | nil => intro a b k hk hl; simp [putAt]
    | cons c new ih =>
      intro a b k hk hl
      cases b with
      | nil => simp at hl
      | cons d b =>
        unfold putAt
        have : (a ++ d :: b).set k c = (a ++ [c]) ++ b := by
          subst hk
          rw [List.set_append_right _ _ (Nat.le_refl _)]; simp
        rw [this, ih (a ++ [c]) b (k + 1) (by simp [hk]) (by simpa using hl)]
        simp
  intro xs
  induction xs with
  | nil => intro i h; simp at h
  | cons x xs ih =>
    intro i h
    cases i with
    | zero =>
      rw [Nat.zero_mul, List.flatMap_cons]
      have := pat (f v) [] (f x ++ xs.flatMap f) 0 rfl (by simp [hf])
      simp only [List.nil_append] at this
      rw [this, List.set_cons_zero, List.flatMap_cons, List.drop_append, List.drop_of_length_le (by simp [hf])]
      simp [hf]
    | succ i =>
      have e : (i + 1) * n = (f x).length + i * n := by rw [hf, Nat.add_mul]; omega
      have key : ∀ (new a b : List Cell) (k : Nat), putAt (a ++ b) (a.length + k) new = a ++ putAt b k new := by
        intro new
        induction new with
        | nil => intro a b k; rfl
        | cons c new ihn =>
          intro a b k
          unfold putAt
          rw [List.set_append_right _ _ (by omega), Nat.add_sub_cancel_left, Nat.add_assoc]
          exact ihn a _ (k + 1)
      rw [List.flatMap_cons, e, key, ih i (by simpa using h), List.set_cons_succ, List.flatMap_cons]
theorem flatMap_fld {α : Type} {f : α → List Cell} {n : Nat} (hf : ∀ x, (f x).length = n) (z : α) (xs : List α) (i o : Nat) (d : Cell) (h : i < xs.length) (ho : o < n) : (xs.flatMap f).getD (i * n + o) d = (f (xs.getD i z)).getD o d := by
  have h1 := flatMap_at hf z xs i h
  rw [← h1]
  simp only [List.getD_eq_getElem?_getD, List.getElem?_take_of_lt ho, List.getElem?_drop]
end Go.Proofs.Ytabanfgnnelfcaa.Sh
