/- Buckets: plain functions like those of the package, and the contract of bucket.Valid. -/
import Derived.Test.YtcfkmkabjalgjacRows
import Derived.WalkKit
import Derived.WalkSpells
import Derived.WalkLawsBesides
import Derived.Lib.Hide
import Derived.Deep.QuietTactic
import Derived.BigQuiet
import Derived.Handy
namespace Go.Proofs.Ytcfkmkabjalgjac
open Go.RowKit
set_option linter.unusedVariables false
set_option linter.unusedSimpArgs false

theorem ret_i {k : IntKind} {a b : Int} (h : a = b) : Ending.returned (.int k a) = .returned (.int k b) := by rw [h]
theorem ret_b {a b : Bool} (h : a = b) : Ending.returned (.bool a) = .returned (.bool b) := by rw [h]
theorem ret_ii {k l : IntKind} {a b c d : Int} (h : a = b) (h2 : c = d) : Ending.returned (.tuple #[.int k a, .int l c]) = .returned (.tuple #[.int k b, .int l d]) := by rw [h, h2]

/-- A bucket: rate, per, burst, level, now. -/
structure Bk where
  r : Int
  p : Int
  s : Int
  l : Int
  t : Int
def Bk.v (b : Bk) : Value := .agg #[.int .i64 b.r, .int .i64 b.p, .int .i64 b.s, .int .i64 b.l, .int .i64 b.t]
def zero : Bk := ⟨0, 0, 0, 0, 0⟩

def Ok (b : Bk) : Prop := 1 ≤ b.p ∧ b.p ≤ 1048576 ∧ 0 ≤ b.t ∧ b.t ≤ 1048576 ∧
  (if b.r = 4611686018427387904 then b.s = 0 ∧ b.l = 0 else 0 ≤ b.r ∧ b.r ≤ 1073741824 ∧ 0 ≤ b.s ∧ b.s ≤ 1073741824 ∧ 0 ≤ b.l ∧ b.l ≤ b.s * b.p)
instance (b : Bk) : Decidable (Ok b) := by unfold Ok; infer_instance
def bvalid (b : Bk) : Bool := decide (Ok b)

def bnew (r p s t : Int) : Bk × Int :=
  if Ok ⟨r, p, if r = 4611686018427387904 then 0 else s, 0, t⟩ then (⟨r, p, if r = 4611686018427387904 then 0 else s, (if r = 4611686018427387904 then 0 else s) * p, t⟩, 0) else (zero, 3)
def badv (b : Bk) (now : Int) : Bk × Int :=
  if ¬ Ok b then (zero, 1) else if now < 0 ∨ 1048576 < now then (zero, 3) else if now < b.t then (zero, 23) else
  if b.r = 4611686018427387904 then ({ b with t := now }, 0) else
  ({ b with l := if b.s * b.p < b.l + b.r * (now - b.t) then b.s * b.p else b.l + b.r * (now - b.t), t := now }, 0)
def btok (b : Bk) : Int := if ¬ Ok b then 0 else if b.r = 4611686018427387904 then 1073741824 else b.l / b.p
def btake (b : Bk) (now n : Int) : Bk × Int :=
  if (badv b now).2 ≠ 0 then (zero, (badv b now).2) else if n < 0 ∨ 1073741824 < n then (zero, 3) else if btok (badv b now).1 < n then ((badv b now).1, 11) else
  if (badv b now).1.r = 4611686018427387904 then ((badv b now).1, 0) else ({ (badv b now).1 with l := (badv b now).1.l - n * (badv b now).1.p }, 0)
def bwhen (b : Bk) (n : Int) : Int × Int :=
  if ¬ Ok b then (0, 1) else if n < 0 ∨ 1073741824 < n then (0, 3) else if b.r = 4611686018427387904 ∨ n * b.p - b.l ≤ 0 then (b.t, 0) else
  if b.s < n ∨ b.r = 0 then (0, 21) else if 1048576 < b.t + (n * b.p - b.l + b.r - 1) / b.r then (0, 21) else (b.t + (n * b.p - b.l + b.r - 1) / b.r, 0)
def bchg (b : Bk) (r p s t : Int) : Bk × Int :=
  if (badv b t).2 ≠ 0 then (zero, (badv b t).2) else if (bnew r p s t).2 ≠ 0 then (zero, (bnew r p s t).2) else
  ({ (bnew r p s t).1 with l := (if (bnew r p s t).1.s < (if (badv b t).1.r = 4611686018427387904 then 0 else btok (badv b t).1) then (bnew r p s t).1.s else (if (badv b t).1.r = 4611686018427387904 then 0 else btok (badv b t).1)) * p }, 0)

theorem mul_bd {a b A B : Int} (h0 : 0 ≤ a) (h1 : a ≤ A) (h2 : 0 ≤ b) (h3 : b ≤ B) : 0 ≤ a * b ∧ a * b ≤ A * B :=
  ⟨Int.mul_nonneg h0 h2, Int.mul_le_mul h1 h3 h2 (Int.le_trans h0 h1)⟩

set_option maxHeartbeats 2000000 in
theorem valid_any (b : Bk) (w : World) :
    Calls Try.prog 16 #[b.v] w fun e w' => e = .returned (.bool (bvalid b)) ∧ Below w.heap.size w w' := by
  obtain ⟨r, p, s, l, t⟩ := b
  unfold Bk.v
  simp only
  by_cases hr : r = 4611686018427387904
  · have HF := Lib.hid (show bvalid ⟨r, p, s, l, t⟩ = decide (1 ≤ p ∧ p ≤ 1048576 ∧ 0 ≤ t ∧ t ≤ 1048576 ∧ s = 0 ∧ l = 0) by unfold bvalid Ok; simp only [hr, if_true])
    have hrb : (r == 4611686018427387904) = true := by simp [hr]
    clear hr
    go_enter Try.func16, Try.ntmps16
    go_wp2
    all_goals go_ret
    all_goals refine ⟨ret_b ?_, by go_grown⟩
    all_goals (rw [HF.out]; (try simp only [Bool.not_eq_true', decide_eq_false_iff_not, Bool.not_eq_false', decide_eq_true_eq] at *); first | (symm; apply decide_eq_true; omega) | (symm; apply decide_eq_false; omega) | (rw [Bool.eq_iff_iff]; simp only [decide_eq_true_eq, beq_iff_eq]; omega))
  · have hrb : (r == 4611686018427387904) = false := by simp [hr]
    have HF := Lib.hid (show bvalid ⟨r, p, s, l, t⟩ = decide (1 ≤ p ∧ p ≤ 1048576 ∧ 0 ≤ t ∧ t ≤ 1048576 ∧ 0 ≤ r ∧ r ≤ 1073741824 ∧ 0 ≤ s ∧ s ≤ 1073741824 ∧ 0 ≤ l ∧ l ≤ s * p) by unfold bvalid Ok; simp only [hr, if_false])
    clear hr
    by_cases hsp : 0 ≤ s ∧ s ≤ 1073741824 ∧ 1 ≤ p ∧ p ≤ 1048576
    · obtain ⟨m0, m1⟩ := mul_bd hsp.1 hsp.2.1 (show 0 ≤ p by omega) hsp.2.2.2
      obtain ⟨q, hq⟩ : ∃ q, s * p = q := ⟨_, rfl⟩
      obtain ⟨c1, c2, c3, c4⟩ := hsp
      rw [hq] at m0 m1 HF
      have m2 : q ≤ 1125899906842624 := by omega
      clear m1
      go_enter Try.func16, Try.ntmps16
      go_wp2
      all_goals go_ret
      all_goals refine ⟨ret_b ?_, by go_grown⟩
      all_goals (rw [HF.out]; (try simp only [Bool.not_eq_true', decide_eq_false_iff_not, Bool.not_eq_false', decide_eq_true_eq] at *); first | (symm; apply decide_eq_true; omega) | (symm; apply decide_eq_false; omega) | (rw [Bool.eq_iff_iff]; simp only [decide_eq_true_eq, beq_iff_eq]; omega))
    · obtain ⟨q, hq⟩ : ∃ q, s * p = q := ⟨_, rfl⟩
      rw [hq] at HF
      by_cases hp : p < 1
      · clear hsp hq
        go_enter Try.func16, Try.ntmps16
        go_wp2
        all_goals go_ret
        all_goals refine ⟨ret_b ?_, by go_grown⟩
        all_goals (rw [HF.out]; (try simp only [Bool.not_eq_true', decide_eq_false_iff_not, Bool.not_eq_false', decide_eq_true_eq] at *); first | (symm; apply decide_eq_true; omega) | (symm; apply decide_eq_false; omega) | (rw [Bool.eq_iff_iff]; simp only [decide_eq_true_eq, beq_iff_eq]; omega))
      · by_cases hp2 : 1048576 < p
        · clear hsp hq
          go_enter Try.func16, Try.ntmps16
          go_wp2
          all_goals go_ret
          all_goals refine ⟨ret_b ?_, by go_grown⟩
          all_goals (rw [HF.out]; (try simp only [Bool.not_eq_true', decide_eq_false_iff_not, Bool.not_eq_false', decide_eq_true_eq] at *); first | (symm; apply decide_eq_true; omega) | (symm; apply decide_eq_false; omega) | (rw [Bool.eq_iff_iff]; simp only [decide_eq_true_eq, beq_iff_eq]; omega))
        · by_cases hs : s < 0
          · clear hsp hq
            go_enter Try.func16, Try.ntmps16
            go_wp2
            all_goals go_ret
            all_goals refine ⟨ret_b ?_, by go_grown⟩
            all_goals (rw [HF.out]; (try simp only [Bool.not_eq_true', decide_eq_false_iff_not, Bool.not_eq_false', decide_eq_true_eq] at *); first | (symm; apply decide_eq_true; omega) | (symm; apply decide_eq_false; omega) | (rw [Bool.eq_iff_iff]; simp only [decide_eq_true_eq, beq_iff_eq]; omega))
          · have hs2 : 1073741824 < s := by omega
            clear hsp hq
            go_enter Try.func16, Try.ntmps16
            go_wp2
            all_goals go_ret
            all_goals refine ⟨ret_b ?_, by go_grown⟩
            all_goals (rw [HF.out]; (try simp only [Bool.not_eq_true', decide_eq_false_iff_not, Bool.not_eq_false', decide_eq_true_eq] at *); first | (symm; apply decide_eq_true; omega) | (symm; apply decide_eq_false; omega) | (rw [Bool.eq_iff_iff]; simp only [decide_eq_true_eq, beq_iff_eq]; omega))

set_option maxHeartbeats 2000000 in
theorem rvalid_any (b : Bk) (w : World) :
    Calls Try.prog 25 #[b.v] w fun e w' => e = .returned (.bool (bvalid b)) ∧ Below w.heap.size w w' := by
  obtain ⟨r, p, s, l, t⟩ := b
  unfold Bk.v
  simp only
  by_cases hr : r = 4611686018427387904
  · have HF := Lib.hid (show bvalid ⟨r, p, s, l, t⟩ = decide (1 ≤ p ∧ p ≤ 1048576 ∧ 0 ≤ t ∧ t ≤ 1048576 ∧ s = 0 ∧ l = 0) by unfold bvalid Ok; simp only [hr, if_true])
    have hrb : (r == 4611686018427387904) = true := by simp [hr]
    clear hr
    go_enter Try.func25, Try.ntmps25
    go_wp2
    all_goals go_ret
    all_goals refine ⟨ret_b ?_, by go_grown⟩
    all_goals (rw [HF.out]; (try simp only [Bool.not_eq_true', decide_eq_false_iff_not, Bool.not_eq_false', decide_eq_true_eq] at *); first | (symm; apply decide_eq_true; omega) | (symm; apply decide_eq_false; omega) | (rw [Bool.eq_iff_iff]; simp only [decide_eq_true_eq, beq_iff_eq]; omega))
  · have hrb : (r == 4611686018427387904) = false := by simp [hr]
    have HF := Lib.hid (show bvalid ⟨r, p, s, l, t⟩ = decide (1 ≤ p ∧ p ≤ 1048576 ∧ 0 ≤ t ∧ t ≤ 1048576 ∧ 0 ≤ r ∧ r ≤ 1073741824 ∧ 0 ≤ s ∧ s ≤ 1073741824 ∧ 0 ≤ l ∧ l ≤ s * p) by unfold bvalid Ok; simp only [hr, if_false])
    clear hr
    by_cases hsp : 0 ≤ s ∧ s ≤ 1073741824 ∧ 1 ≤ p ∧ p ≤ 1048576
    · obtain ⟨m0, m1⟩ := mul_bd hsp.1 hsp.2.1 (show 0 ≤ p by omega) hsp.2.2.2
      obtain ⟨q, hq⟩ : ∃ q, s * p = q := ⟨_, rfl⟩
      obtain ⟨c1, c2, c3, c4⟩ := hsp
      rw [hq] at m0 m1 HF
      have m2 : q ≤ 1125899906842624 := by omega
      clear m1
      go_enter Try.func25, Try.ntmps25
      go_wp2
      all_goals go_ret
      all_goals refine ⟨ret_b ?_, by go_grown⟩
      all_goals (rw [HF.out]; (try simp only [Bool.not_eq_true', decide_eq_false_iff_not, Bool.not_eq_false', decide_eq_true_eq] at *); first | (symm; apply decide_eq_true; omega) | (symm; apply decide_eq_false; omega) | (rw [Bool.eq_iff_iff]; simp only [decide_eq_true_eq, beq_iff_eq]; omega))
    · obtain ⟨q, hq⟩ : ∃ q, s * p = q := ⟨_, rfl⟩
      rw [hq] at HF
      by_cases hp : p < 1
      · clear hsp hq
        go_enter Try.func25, Try.ntmps25
        go_wp2
        all_goals go_ret
        all_goals refine ⟨ret_b ?_, by go_grown⟩
        all_goals (rw [HF.out]; (try simp only [Bool.not_eq_true', decide_eq_false_iff_not, Bool.not_eq_false', decide_eq_true_eq] at *); first | (symm; apply decide_eq_true; omega) | (symm; apply decide_eq_false; omega) | (rw [Bool.eq_iff_iff]; simp only [decide_eq_true_eq, beq_iff_eq]; omega))
      · by_cases hp2 : 1048576 < p
        · clear hsp hq
          go_enter Try.func25, Try.ntmps25
          go_wp2
          all_goals go_ret
          all_goals refine ⟨ret_b ?_, by go_grown⟩
          all_goals (rw [HF.out]; (try simp only [Bool.not_eq_true', decide_eq_false_iff_not, Bool.not_eq_false', decide_eq_true_eq] at *); first | (symm; apply decide_eq_true; omega) | (symm; apply decide_eq_false; omega) | (rw [Bool.eq_iff_iff]; simp only [decide_eq_true_eq, beq_iff_eq]; omega))
        · by_cases hs : s < 0
          · clear hsp hq
            go_enter Try.func25, Try.ntmps25
            go_wp2
            all_goals go_ret
            all_goals refine ⟨ret_b ?_, by go_grown⟩
            all_goals (rw [HF.out]; (try simp only [Bool.not_eq_true', decide_eq_false_iff_not, Bool.not_eq_false', decide_eq_true_eq] at *); first | (symm; apply decide_eq_true; omega) | (symm; apply decide_eq_false; omega) | (rw [Bool.eq_iff_iff]; simp only [decide_eq_true_eq, beq_iff_eq]; omega))
          · have hs2 : 1073741824 < s := by omega
            clear hsp hq
            go_enter Try.func25, Try.ntmps25
            go_wp2
            all_goals go_ret
            all_goals refine ⟨ret_b ?_, by go_grown⟩
            all_goals (rw [HF.out]; (try simp only [Bool.not_eq_true', decide_eq_false_iff_not, Bool.not_eq_false', decide_eq_true_eq] at *); first | (symm; apply decide_eq_true; omega) | (symm; apply decide_eq_false; omega) | (rw [Bool.eq_iff_iff]; simp only [decide_eq_true_eq, beq_iff_eq]; omega))

theorem bcell {W w1 : World} (hb : Below W.heap.size W w1) : (∀ b o, b < W.heap.size → w1.cell? ⟨b, o, none⟩ = W.cell? ⟨b, o, none⟩) ∧ (∀ b o, b < W.heap.size → w1.frozen? ⟨b, o, none⟩ = W.frozen? ⟨b, o, none⟩) :=
  ⟨fun b o h => hb.cell (p := ⟨b, o, none⟩) h, fun b o h => hb.frozen (p := ⟨b, o, none⟩) h⟩
theorem ok_open (b : Bk) (h : Ok b) (hr : b.r = 4611686018427387904) : 1 ≤ b.p ∧ b.p ≤ 1048576 ∧ 0 ≤ b.t ∧ b.t ≤ 1048576 ∧ b.s = 0 ∧ b.l = 0 := by
  unfold Ok at h; rw [if_pos hr] at h; omega
theorem ok_shut (b : Bk) (h : Ok b) (hr : ¬ b.r = 4611686018427387904) : 1 ≤ b.p ∧ b.p ≤ 1048576 ∧ 0 ≤ b.t ∧ b.t ≤ 1048576 ∧ 0 ≤ b.r ∧ b.r ≤ 1073741824 ∧ 0 ≤ b.s ∧ b.s ≤ 1073741824 ∧ 0 ≤ b.l ∧ b.l ≤ b.s * b.p ∧ b.l ≤ 1125899906842624 := by
  unfold Ok at h; rw [if_neg hr] at h
  have := mul_bd (a := b.s) (b := b.p) (A := 1073741824) (B := 1048576) (by omega) (by omega) (by omega) (by omega)
  omega
theorem valid_yes (b : Bk) (w : World) (h : Ok b) : Calls Try.prog 16 #[b.v] w fun e w' => e = .returned (.bool true) ∧ Below w.heap.size w w' := by
  have := valid_any b w
  rwa [show bvalid b = true by unfold bvalid; exact decide_eq_true h] at this
theorem valid_no (b : Bk) (w : World) (h : ¬ Ok b) : Calls Try.prog 16 #[b.v] w fun e w' => e = .returned (.bool false) ∧ Below w.heap.size w w' := by
  have := valid_any b w
  rwa [show bvalid b = false by unfold bvalid; exact decide_eq_false h] at this
theorem rvalid_yes (b : Bk) (w : World) (h : Ok b) : Calls Try.prog 25 #[b.v] w fun e w' => e = .returned (.bool true) ∧ Below w.heap.size w w' := by
  have := rvalid_any b w
  rwa [show bvalid b = true by unfold bvalid; exact decide_eq_true h] at this
theorem rvalid_no (b : Bk) (w : World) (h : ¬ Ok b) : Calls Try.prog 25 #[b.v] w fun e w' => e = .returned (.bool false) ∧ Below w.heap.size w w' := by
  have := rvalid_any b w
  rwa [show bvalid b = false by unfold bvalid; exact decide_eq_false h] at this
end Go.Proofs.Ytcfkmkabjalgjac
