/- Contracts of number.factor, number.Parse for every text. -/
import Derived.Test.YtjfknijaohemgaaNum
import Derived.Deep.QuietTactic
import Derived.BigQuiet
namespace Go.Proofs.Ytjfknijaohemgaa
open Go.RowKit
set_option linter.unusedVariables false

def fac (b : Int) : Int := if b == 75 then 1024 else if b == 77 then 1048576 else if b == 71 then 1073741824 else if b == 84 then 1099511627776 else 0
theorem fac_cases (b : Int) : 0 ≤ fac b ∧ fac b ≤ 1099511627776 := by unfold fac; repeat' split <;> omega
/-- What number.Parse answers for digits and a unit. -/
def fin (r : Int × Bool) (u : Int) : Int × Int := if r.2 = false then (0, 2) else if 1099511627776 / u < r.1 then (0, 3) else (r.1 * u, 0)
/-- What number.Parse answers. -/
def parseR (s : ByteArray) : Int × Int :=
  if s.toList == [109, 97, 120] then (4611686018427387904, 0) else
  if h : 0 < s.size then (if 0 < fac ((s[s.size - 1]).toNat : Int) then fin (valR (s.extract 0 (s.size - 1))) (fac ((s[s.size - 1]).toNat : Int)) else fin (valR s) 1) else fin (valR s) 1

theorem valGo_bd (l : List UInt8) : ∀ n : Int, 0 ≤ n → n ≤ 1099511627777 → ∀ m, valGo l n = some m → 0 ≤ m ∧ m ≤ 1099511627777 := by
  induction l with
  | nil => intro n h0 h1 m hm; simp [valGo] at hm; omega
  | cons c r ih =>
    intro n h0 h1 m hm
    unfold valGo at hm
    split at hm
    · refine ih _ ?_ ?_ m hm <;> split <;> omega
    · cases hm
theorem valR_bd (s : ByteArray) : 0 ≤ (valR s).1 ∧ (valR s).1 ≤ 1099511627777 := by
  unfold valR
  split
  · rename_i n hn; exact valGo_bd _ 0 (by omega) (by omega) n hn
  · simp
theorem mul_in (n f : Int) (h0 : 0 ≤ n) (hf : 0 < f) (h : ¬ 1099511627776 / f < n) : 0 ≤ n * f ∧ n * f ≤ 1099511627776 :=
  ⟨Int.mul_nonneg h0 (by omega), Int.mul_le_of_le_ediv hf (by omega)⟩

set_option maxHeartbeats 400000 in
theorem factor_any (b : Int) (w : World) :
    Calls Try.prog 19 #[.int .u8 b] w fun e w' => e = .returned (.int .i64 (fac b)) ∧ w = w' := by
  go_enter Try.func19, Try.ntmps19
  go_wp2
  all_goals (go_ret; exact ⟨ret_i (by unfold fac; simp [*]), rfl⟩)
theorem factor_q (b : Int) (w : World) :
    Calls Try.prog 19 #[.int .u8 b] w fun e w' => e = .returned (.int .i64 (fac b)) ∧ w' = w :=
  (factor_any b w).mono fun _ _ ⟨a, b⟩ => ⟨a, b.symm⟩

set_option maxHeartbeats 400000 in
theorem parse_max (s : ByteArray) (w : World) (hm : (s.toList == [109, 97, 120]) = true) :
    Calls Try.prog 7 #[.string s] w fun e w' => e = .returned (.tuple #[.int .i64 4611686018427387904, .int .i64 0]) ∧ Below w.heap.size w w' := by
  go_enter Try.func7, Try.ntmps7
  go_wp2_with fail
  go_ret2
  exact ⟨rfl, Below.refl _ _⟩

set_option maxHeartbeats 1000000 in
theorem parse_empty (s : ByteArray) (w : World) (hs : s.size ≤ 9223372036854775807) (hm : (s.toList == [109, 97, 120]) = false) (h0 : ¬ 0 < s.size) :
    Calls Try.prog 7 #[.string s] w fun e w' => e = .returned (.tuple #[.int .i64 (fin (valR s) 1).1, .int .i64 (fin (valR s) 1).2]) ∧ Below w.heap.size w w' := by
  have HV := Lib.hid (value_any s)
  have hbd := valR_bd s
  obtain ⟨n, k, hr⟩ : ∃ n k, valR s = (n, k) := ⟨_, _, rfl⟩
  rw [hr] at HV hbd ⊢
  obtain ⟨hb0, hb1⟩ := hbd
  simp only at hb0 hb1
  clear hr

  by_cases hk : k = true
  · subst hk
    by_cases hn : 1099511627776 < n
    · have HF := Lib.hid (show fin (n, true) 1 = (0, 3) by unfold fin; rw [if_neg (by simp), if_pos (by simpa using hn)])
      go_enter Try.func7, Try.ntmps7
      go_wp2_with (go_at_call 20; refine (HV.out _).mono ?_; rintro e w1 ⟨rfl, hb⟩)
      go_ret2
      exact ⟨ret_ii (by rw [HF.out]) (by rw [HF.out]), ⟨hb.os, hb.tape, hb.output, hb.size, hb.block⟩⟩
    · have HF := Lib.hid (show fin (n, true) 1 = (n, 0) by unfold fin; rw [if_neg (by simp), if_neg (by simpa using hn)]; simp)

      go_enter Try.func7, Try.ntmps7
      go_wp2_with (go_at_call 20; refine (HV.out _).mono ?_; rintro e w1 ⟨rfl, hb⟩)
      go_ret2
      exact ⟨ret_ii (by rw [HF.out]) (by rw [HF.out]), ⟨hb.os, hb.tape, hb.output, hb.size, hb.block⟩⟩
  · have hk : k = false := by simpa using hk
    subst hk
    have HF := Lib.hid (show fin (n, false) 1 = (0, 2) by unfold fin; rw [if_pos rfl])
    go_enter Try.func7, Try.ntmps7
    go_wp2_with (go_at_call 20; refine (HV.out _).mono ?_; rintro e w1 ⟨rfl, hb⟩)
    go_ret2
    exact ⟨ret_ii (by rw [HF.out]) (by rw [HF.out]), ⟨hb.os, hb.tape, hb.output, hb.size, hb.block⟩⟩

set_option maxHeartbeats 1000000 in
theorem parse_plain (s : ByteArray) (w : World) (hs : s.size ≤ 9223372036854775807) (hm : (s.toList == [109, 97, 120]) = false) (h0 : 0 < s.size) (hf : ¬ 0 < fac ((s[s.size - 1]).toNat : Int)) :
    Calls Try.prog 7 #[.string s] w fun e w' => e = .returned (.tuple #[.int .i64 (fin (valR s) 1).1, .int .i64 (fin (valR s) 1).2]) ∧ Below w.heap.size w w' := by
  have HV := Lib.hid (value_any s)
  have hbd := valR_bd s
  obtain ⟨n, k, hr⟩ : ∃ n k, valR s = (n, k) := ⟨_, _, rfl⟩
  rw [hr] at HV hbd ⊢
  obtain ⟨hb0, hb1⟩ := hbd
  simp only at hb0 hb1
  clear hr
  have hf1 := Lib.hid hf
  by_cases hk : k = true
  · subst hk
    by_cases hn : 1099511627776 < n
    · have HF := Lib.hid (show fin (n, true) 1 = (0, 3) by unfold fin; rw [if_neg (by simp), if_pos (by simpa using hn)])
      go_enter Try.func7, Try.ntmps7
      go_wp2_with (first | (go_at_call 19; refine (factor_any _ _).mono ?_; rintro e w' ⟨rfl, rfl⟩) | (go_at_call 20; refine (HV.out _).mono ?_; rintro e w1 ⟨rfl, hb⟩))
      go_ret2
      exact ⟨ret_ii (by rw [HF.out]) (by rw [HF.out]), ⟨hb.os, hb.tape, hb.output, hb.size, hb.block⟩⟩
    · have HF := Lib.hid (show fin (n, true) 1 = (n, 0) by unfold fin; rw [if_neg (by simp), if_neg (by simpa using hn)]; simp)

      go_enter Try.func7, Try.ntmps7
      go_wp2_with (first | (go_at_call 19; refine (factor_any _ _).mono ?_; rintro e w' ⟨rfl, rfl⟩) | (go_at_call 20; refine (HV.out _).mono ?_; rintro e w1 ⟨rfl, hb⟩))
      go_ret2
      exact ⟨ret_ii (by rw [HF.out]) (by rw [HF.out]), ⟨hb.os, hb.tape, hb.output, hb.size, hb.block⟩⟩
  · have hk : k = false := by simpa using hk
    subst hk
    have HF := Lib.hid (show fin (n, false) 1 = (0, 2) by unfold fin; rw [if_pos rfl])
    go_enter Try.func7, Try.ntmps7
    go_wp2_with (first | (go_at_call 19; refine (factor_any _ _).mono ?_; rintro e w' ⟨rfl, rfl⟩) | (go_at_call 20; refine (HV.out _).mono ?_; rintro e w1 ⟨rfl, hb⟩))
    go_ret2
    exact ⟨ret_ii (by rw [HF.out]) (by rw [HF.out]), ⟨hb.os, hb.tape, hb.output, hb.size, hb.block⟩⟩

set_option maxHeartbeats 1000000 in
theorem parse_unit (s : ByteArray) (w : World) (hs : s.size ≤ 9223372036854775807) (hm : (s.toList == [109, 97, 120]) = false) (h0 : 0 < s.size) (u : Int) (hu : fac ((s[s.size - 1]).toNat : Int) = u) (hf : 0 < u) (hu9 : u ≤ 1099511627776) :
    Calls Try.prog 7 #[.string s] w fun e w' => e = .returned (.tuple #[.int .i64 (fin (valR (s.extract 0 (s.size - 1))) u).1, .int .i64 (fin (valR (s.extract 0 (s.size - 1))) u).2]) ∧ Below w.heap.size w w' := by
  have HV := Lib.hid (value_any (s.extract 0 (s.size - 1)))
  have hbd := valR_bd (s.extract 0 (s.size - 1))
  obtain ⟨n, k, hr⟩ : ∃ n k, valR (s.extract 0 (s.size - 1)) = (n, k) := ⟨_, _, rfl⟩
  rw [hr] at HV hbd ⊢
  obtain ⟨hb0, hb1⟩ := hbd
  simp only at hb0 hb1
  clear hr
  obtain ⟨hq0, hq1, HM⟩ : 0 ≤ (1099511627776 : Int) / u ∧ (1099511627776 : Int) / u ≤ 1099511627776 ∧ Hid (¬ (1099511627776 : Int) / u < n → 0 ≤ n * u ∧ n * u ≤ 1099511627776) :=
    ⟨Int.ediv_nonneg (by omega) (by omega), Int.ediv_le_self _ (by omega), Lib.hid fun h => mul_in n u hb0 hf h⟩
  obtain ⟨q, hqe⟩ : ∃ q : Int, (1099511627776 : Int) / u = q := ⟨_, rfl⟩
  rw [hqe] at hq0 hq1 HM
  have hnz : (u == 0) = false := by simp; omega
  by_cases hk : k = true
  · subst hk
    by_cases hn : q < n
    · have HF := Lib.hid (show fin (n, true) u = (0, 3) by unfold fin; rw [if_neg (by simp), if_pos (by rw [hqe]; exact hn)])
      go_enter Try.func7, Try.ntmps7
      go_wp2_with (first | (go_at_call 19; refine (factor_any _ _).mono ?_; rintro e w' ⟨rfl, rfl⟩) | (go_at_call 20; refine (HV.out _).mono ?_; rintro e w1 ⟨rfl, hb⟩))
      go_quiet ((go_at_call 19; exact Calls.quiet_of_same (factor_q _ _)))
      go_wp2_with (first | (go_at_call 20; refine (HV.out _).mono ?_; rintro e w1 ⟨rfl, hb⟩))
      go_ret2
      exact ⟨ret_ii (by rw [HF.out]) (by rw [HF.out]), ⟨hb.os, hb.tape, hb.output, hb.size, hb.block⟩⟩
    · have HF := Lib.hid (show fin (n, true) u = (n * u, 0) by unfold fin; rw [if_neg (by simp), if_neg (by rw [hqe]; exact hn)])
      obtain ⟨p, hp⟩ : ∃ p : Int, n * u = p := ⟨_, rfl⟩
      obtain ⟨hp0, hp1⟩ := HM.out hn
      rw [hp] at hp0 hp1 HF
      go_enter Try.func7, Try.ntmps7
      go_wp2_with (first | (go_at_call 19; refine (factor_any _ _).mono ?_; rintro e w' ⟨rfl, rfl⟩) | (go_at_call 20; refine (HV.out _).mono ?_; rintro e w1 ⟨rfl, hb⟩))
      go_quiet ((go_at_call 19; exact Calls.quiet_of_same (factor_q _ _)))
      go_wp2_with (first | (go_at_call 20; refine (HV.out _).mono ?_; rintro e w1 ⟨rfl, hb⟩))
      go_ret2
      exact ⟨ret_ii (by rw [HF.out]) (by rw [HF.out]), ⟨hb.os, hb.tape, hb.output, hb.size, hb.block⟩⟩
  · have hk : k = false := by simpa using hk
    subst hk
    have HF := Lib.hid (show fin (n, false) u = (0, 2) by unfold fin; rw [if_pos rfl])
    go_enter Try.func7, Try.ntmps7
    go_wp2_with (first | (go_at_call 19; refine (factor_any _ _).mono ?_; rintro e w' ⟨rfl, rfl⟩) | (go_at_call 20; refine (HV.out _).mono ?_; rintro e w1 ⟨rfl, hb⟩))
    go_quiet ((go_at_call 19; exact Calls.quiet_of_same (factor_q _ _)))
    go_wp2_with (first | (go_at_call 20; refine (HV.out _).mono ?_; rintro e w1 ⟨rfl, hb⟩))
    go_ret2
    exact ⟨ret_ii (by rw [HF.out]) (by rw [HF.out]), ⟨hb.os, hb.tape, hb.output, hb.size, hb.block⟩⟩

end Go.Proofs.Ytjfknijaohemgaa
