/- Contracts of number.Add and the references of Clip and Add. -/
import Derived.Test.YtjfknijaohemgaaNum
namespace Go.Proofs.Ytjfknijaohemgaa
open Go.RowKit
set_option linter.unusedVariables false

set_option maxHeartbeats 400000 in
theorem rclip_any (n : Int) (w : World) :
    Calls Try.prog 13 #[.int .i64 n] w fun e w' => e = .returned (.int .i64 (clip n)) ∧ w = w' := by
  by_cases h : 4611686018427387904 ≤ n
  · go_enter Try.func13, Try.ntmps13
    go_wp2
    go_ret
    exact ⟨ret_i (by unfold clip; rw [if_pos h]), rfl⟩
  · go_enter Try.func13, Try.ntmps13
    go_wp2
    all_goals (go_ret; exact ⟨ret_i (by unfold clip; repeat' (first | omega | split | (rename_i hx; split at hx))), rfl⟩)

theorem clip_bd (n : Int) : 0 ≤ clip n ∧ clip n ≤ 4611686018427387904 ∧ (clip n ≠ 4611686018427387904 → clip n ≤ 1099511627776) := by
  unfold clip; repeat' (first | omega | split)
theorem addc_max (a b : Int) (h : clip a = 4611686018427387904 ∨ clip b = 4611686018427387904) : addc a b = 4611686018427387904 := by unfold addc; rw [if_pos h]
theorem addc_sum (a b : Int) (h : ¬ (clip a = 4611686018427387904 ∨ clip b = 4611686018427387904)) : addc a b = if 1099511627776 < clip a + clip b then 1099511627776 else clip a + clip b := by unfold addc; rw [if_neg h]

set_option maxHeartbeats 400000 in
theorem add_any (a b : Int) (w : World) :
    Calls Try.prog 14 #[.int .i64 a, .int .i64 b] w fun e w' => e = .returned (.int .i64 (addc a b)) ∧ w = w' := by
  have HA := Lib.hid (clip_any a)
  have HB := Lib.hid (clip_any b)
  obtain ⟨a0, a1, a2⟩ := clip_bd a
  obtain ⟨b0, b1, b2⟩ := clip_bd b
  by_cases h : clip a = 4611686018427387904 ∨ clip b = 4611686018427387904
  · have HF := Lib.hid (addc_max a b h)
    obtain ⟨x, hx⟩ : ∃ x, clip a = x := ⟨_, rfl⟩
    obtain ⟨y, hy⟩ : ∃ y, clip b = y := ⟨_, rfl⟩
    rw [hx] at HA h
    rw [hy] at HB h
    clear a0 a1 a2 b0 b1 b2 hx hy
    by_cases e : x = 4611686018427387904
    · have ha : (x == 4611686018427387904) = true := by simp [e]
      clear h e
      go_enter Try.func14, Try.ntmps14
      go_wp2_with fail
      refine (HA.out _).mono ?_
      rintro e w' ⟨rfl, rfl⟩
      go_wp2_with fail
      refine (HB.out _).mono ?_
      rintro e w' ⟨rfl, rfl⟩
      go_wp2
      all_goals (go_ret; exact ⟨ret_i (by rw [HF.out]; try (repeat' (first | omega | split))), rfl⟩)
    · have ha : (x == 4611686018427387904) = false := by simp [e]
      have hb : (y == 4611686018427387904) = true := by simpa [e] using h
      clear h e
      go_enter Try.func14, Try.ntmps14
      go_wp2_with fail
      refine (HA.out _).mono ?_
      rintro e w' ⟨rfl, rfl⟩
      go_wp2_with fail
      refine (HB.out _).mono ?_
      rintro e w' ⟨rfl, rfl⟩
      go_wp2
      all_goals (go_ret; exact ⟨ret_i (by rw [HF.out]; try (repeat' (first | omega | split))), rfl⟩)
  · have HF := Lib.hid (addc_sum a b h)
    obtain ⟨x, hx⟩ : ∃ x, clip a = x := ⟨_, rfl⟩
    obtain ⟨y, hy⟩ : ∃ y, clip b = y := ⟨_, rfl⟩
    rw [hx] at HA h HF a0 a1 a2
    rw [hy] at HB h HF b0 b1 b2
    have ha : (x == 4611686018427387904) = false := by simp; exact fun e => h (.inl e)
    have hb : (y == 4611686018427387904) = false := by simp; exact fun e => h (.inr e)
    have a3 : x ≤ 1099511627776 := a2 fun e => h (.inl e)
    have b3 : y ≤ 1099511627776 := b2 fun e => h (.inr e)
    clear h a1 a2 b1 b2 hx hy
    go_enter Try.func14, Try.ntmps14
    go_wp2_with fail
    refine (HA.out _).mono ?_
    rintro e w' ⟨rfl, rfl⟩
    go_wp2_with fail
    refine (HB.out _).mono ?_
    rintro e w' ⟨rfl, rfl⟩
    go_wp2
    all_goals (go_ret; exact ⟨ret_i (by rw [HF.out]; try (repeat' (first | omega | split))), rfl⟩)

set_option maxHeartbeats 400000 in
theorem radd_any (a b : Int) (w : World) :
    Calls Try.prog 15 #[.int .i64 a, .int .i64 b] w fun e w' => e = .returned (.int .i64 (addc a b)) ∧ w = w' := by
  have HA := Lib.hid (rclip_any a)
  have HB := Lib.hid (rclip_any b)
  obtain ⟨a0, a1, a2⟩ := clip_bd a
  obtain ⟨b0, b1, b2⟩ := clip_bd b
  by_cases h : clip a = 4611686018427387904 ∨ clip b = 4611686018427387904
  · have HF := Lib.hid (addc_max a b h)
    obtain ⟨x, hx⟩ : ∃ x, clip a = x := ⟨_, rfl⟩
    obtain ⟨y, hy⟩ : ∃ y, clip b = y := ⟨_, rfl⟩
    rw [hx] at HA h
    rw [hy] at HB h
    clear a0 a1 a2 b0 b1 b2 hx hy
    by_cases e : x = 4611686018427387904
    · have ha : (x == 4611686018427387904) = true := by simp [e]
      clear h e
      go_enter Try.func15, Try.ntmps15
      go_wp2_with fail
      refine (HA.out _).mono ?_
      rintro e w' ⟨rfl, rfl⟩
      go_wp2_with fail
      refine (HB.out _).mono ?_
      rintro e w' ⟨rfl, rfl⟩
      go_wp2
      all_goals (go_ret; exact ⟨ret_i (by rw [HF.out]; try (repeat' (first | omega | split))), rfl⟩)
    · have ha : (x == 4611686018427387904) = false := by simp [e]
      have hb : (y == 4611686018427387904) = true := by simpa [e] using h
      clear h e
      go_enter Try.func15, Try.ntmps15
      go_wp2_with fail
      refine (HA.out _).mono ?_
      rintro e w' ⟨rfl, rfl⟩
      go_wp2_with fail
      refine (HB.out _).mono ?_
      rintro e w' ⟨rfl, rfl⟩
      go_wp2
      all_goals (go_ret; exact ⟨ret_i (by rw [HF.out]; try (repeat' (first | omega | split))), rfl⟩)
  · have HF := Lib.hid (addc_sum a b h)
    obtain ⟨x, hx⟩ : ∃ x, clip a = x := ⟨_, rfl⟩
    obtain ⟨y, hy⟩ : ∃ y, clip b = y := ⟨_, rfl⟩
    rw [hx] at HA h HF a0 a1 a2
    rw [hy] at HB h HF b0 b1 b2
    have ha : (x == 4611686018427387904) = false := by simp; exact fun e => h (.inl e)
    have hb : (y == 4611686018427387904) = false := by simp; exact fun e => h (.inr e)
    have a3 : x ≤ 1099511627776 := a2 fun e => h (.inl e)
    have b3 : y ≤ 1099511627776 := b2 fun e => h (.inr e)
    clear h a1 a2 b1 b2 hx hy
    go_enter Try.func15, Try.ntmps15
    go_wp2_with fail
    refine (HA.out _).mono ?_
    rintro e w' ⟨rfl, rfl⟩
    go_wp2_with fail
    refine (HB.out _).mono ?_
    rintro e w' ⟨rfl, rfl⟩
    go_wp2
    all_goals (go_ret; exact ⟨ret_i (by rw [HF.out]; try (repeat' (first | omega | split))), rfl⟩)

end Go.Proofs.Ytjfknijaohemgaa
