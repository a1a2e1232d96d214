/- number.Parse for every text; the sanity check of the statements of layer 2. -/
import Derived.Test.YtjfknijaohemgaaNumI
namespace Go.Proofs.Ytjfknijaohemgaa
open Go.RowKit
set_option linter.unusedVariables false

theorem parse_any (s : ByteArray) (w : World) (hs : s.size ≤ 9223372036854775807) :
    Calls Try.prog 7 #[.string s] w fun e w' => e = .returned (.tuple #[.int .i64 (parseR s).1, .int .i64 (parseR s).2]) ∧ Below w.heap.size w w' := by
  unfold parseR
  by_cases hm : (s.toList == [109, 97, 120]) = true
  · rw [if_pos hm]; exact parse_max s w hm
  · rw [if_neg hm]
    have hm2 : (s.toList == [109, 97, 120]) = false := by simpa using hm
    by_cases h0 : 0 < s.size
    · rw [dif_pos h0]
      by_cases hf : 0 < fac ((s[s.size - 1]).toNat : Int)
      · rw [if_pos hf]; exact parse_unit s w hs hm2 h0 _ rfl hf (fac_cases _).2
      · rw [if_neg hf]; exact parse_plain s w hs hm2 h0 hf
    · rw [dif_neg h0]; exact parse_empty s w hs hm2 h0

theorem parse_12K (w : World) : Calls Try.prog 7 #[.string ⟨#[49, 50, 75]⟩] w fun e w' => e = .returned (.tuple #[.int .i64 12288, .int .i64 0]) ∧ Below w.heap.size w w' := by
  have h := parse_any ⟨#[49, 50, 75]⟩ w (by decide)
  rw [show parseR ⟨#[49, 50, 75]⟩ = (12288, 0) by decide +kernel] at h
  exact h
theorem parse_012 (w : World) : Calls Try.prog 7 #[.string ⟨#[48, 49, 50]⟩] w fun e w' => e = .returned (.tuple #[.int .i64 12, .int .i64 0]) ∧ Below w.heap.size w w' := by
  have h := parse_any ⟨#[48, 49, 50]⟩ w (by decide)
  rw [show parseR ⟨#[48, 49, 50]⟩ = (12, 0) by decide +kernel] at h
  exact h
theorem parse_K (w : World) : Calls Try.prog 7 #[.string ⟨#[75]⟩] w fun e w' => e = .returned (.tuple #[.int .i64 0, .int .i64 2]) ∧ Below w.heap.size w w' := by
  have h := parse_any ⟨#[75]⟩ w (by decide)
  rw [show parseR ⟨#[75]⟩ = (0, 2) by decide +kernel] at h
  exact h
theorem hund_125 (w : World) : Calls Try.prog 21 #[.string ⟨#[49, 50, 46, 53]⟩] w fun e w' => e = .returned (.tuple #[.int .i64 1250, .int .i64 0]) ∧ Below w.heap.size w w' := by
  have h := hund_dot ⟨#[49, 50, 46, 53]⟩ w (by decide) (by decide +kernel) 2 (by decide) (by decide) (by decide)
  rw [show hfin (valR (ByteArray.extract ⟨#[49, 50, 46, 53]⟩ 0 2)) (valR (ByteArray.extract ⟨#[49, 50, 46, 53]⟩ (2 + 1) (ByteArray.size ⟨#[49, 50, 46, 53]⟩))) (ByteArray.size ⟨#[49, 50, 46, 53]⟩ - (2 + 1)) = (1250, 0) by decide +kernel] at h
  exact h

set_option maxHeartbeats 1000000 in
theorem sane_any (w : World) :
    Calls Try.prog 8 #[] w fun e w' => e = .returned (.bool true) ∧ Below w.heap.size w w' := by
  go_enter Try.func8, Try.ntmps8
  go_wp2_with fail
  refine (parse_12K _).mono ?_
  rintro e w1 ⟨rfl, h1⟩
  go_wp2_with fail
  refine (parse_012 _).mono ?_
  rintro e w2 ⟨rfl, h2⟩
  go_wp2_with fail
  refine (parse_K _).mono ?_
  rintro e w3 ⟨rfl, h3⟩
  go_wp2_with fail
  refine (hund_125 _).mono ?_
  rintro e w4 ⟨rfl, h4⟩
  have hb := h1.trans ((h2.trans ((h3.trans (h4.mono h3.size)).mono h2.size)).mono h1.size)
  go_wp2
  go_ret
  exact ⟨rfl, hb⟩
end Go.Proofs.Ytjfknijaohemgaa
