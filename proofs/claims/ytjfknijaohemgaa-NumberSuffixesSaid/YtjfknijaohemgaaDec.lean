/- The contract of Decimal, the reference's text of a number. -/
import Derived.Test.YtjfknijaohemgaaNumB
namespace Go.Proofs.Ytjfknijaohemgaa
open Go.RowKit
set_option linter.unusedVariables false

/-- The decimal digits of a number. -/
def digs (n : Nat) : List UInt8 := if n < 10 then [48 + UInt8.ofNat (n % 10)] else digs (n / 10) ++ [48 + UInt8.ofNat (n % 10)]
termination_by n
decreasing_by omega

theorem digs_lt (n : Nat) (h : n < 10) : digs n = [48 + UInt8.ofNat (n % 10)] := by rw [digs, if_pos h]
theorem digs_ge (n : Nat) (h : ¬ n < 10) : digs n = digs (n / 10) ++ [48 + UInt8.ofNat (n % 10)] := by rw [digs, if_neg h]

/-- What is known in the middle of Decimal: t is the text so far, m what is left. -/
def DecInv (n m : Nat) (t : ByteArray) : Prop :=
  m * 10 ^ t.size ≤ n ∧ ((t.size = 0 ∧ m = n) ∨ (0 < t.size ∧ (if 0 < m then digs m else []) ++ t.data.toList = digs n))

def blank : Value → Nat | .string t => if t.size = 0 then 1 else 0 | _ => 0
theorem push_list (c : UInt8) (t : ByteArray) : (ByteArray.empty.push c ++ t).data.toList = c :: t.data.toList := by simp
theorem push_size (c : UInt8) (t : ByteArray) : (ByteArray.empty.push c ++ t).size = t.size + 1 := by
  rw [← ByteArray.size_data, ← Array.length_toList, push_list, List.length_cons, Array.length_toList, ByteArray.size_data]
theorem empty_yes (t : ByteArray) (h : t.size = 0) : t.toList.isEmpty = true := by
  rw [ByteArray.toList_eq, List.isEmpty_iff, ← List.length_eq_zero_iff, Array.length_toList]; exact h
theorem empty_no (t : ByteArray) (h : ¬ t.size = 0) : t.toList.isEmpty = false := by
  rw [ByteArray.toList_eq, List.isEmpty_eq_false_iff, ne_eq, ← List.length_eq_zero_iff, Array.length_toList]; exact h
theorem dec_step (n m : Nat) (t : ByteArray) (h : DecInv n m t) (hg : 0 < m ∨ t.size = 0) : DecInv n (m / 10) (ByteArray.empty.push (48 + UInt8.ofNat (m % 10)) ++ t) := by
  obtain ⟨h1, h2⟩ := h
  refine ⟨?_, .inr ⟨by rw [push_size]; omega, ?_⟩⟩
  · rw [push_size, Nat.pow_succ, Nat.mul_comm (10 ^ t.size) 10, ← Nat.mul_assoc]
    exact Nat.le_trans (Nat.mul_le_mul_right _ (Nat.div_mul_le_self m 10)) h1
  · rw [push_list]
    have key : (if 0 < m / 10 then digs (m / 10) else []) ++ [48 + UInt8.ofNat (m % 10)] = digs m := by
      by_cases hm : m < 10
      · rw [if_neg (by omega), digs_lt m hm]; rfl
      · rw [if_pos (by omega), digs_ge m hm]
    rw [show (48 + UInt8.ofNat (m % 10)) :: t.data.toList = [48 + UInt8.ofNat (m % 10)] ++ t.data.toList from rfl, ← List.append_assoc, key]
    rcases h2 with ⟨h2, rfl⟩ | ⟨h2, h3⟩
    · have : t.data.toList = [] := by rw [← List.length_eq_zero_iff, Array.length_toList]; exact h2
      rw [this, List.append_nil]
    · rcases hg with hg | hg
      · rw [if_pos hg] at h3; exact h3
      · omega
theorem dec_size (n m : Nat) (t : ByteArray) (hn : n < 9223372036854775807) (h : DecInv n m t) (hg : 0 < m ∨ t.size = 0) : t.size < 19 := by
  rcases hg with hg | hg
  · have h1 : 10 ^ t.size ≤ n := Nat.le_trans (Nat.le_mul_of_pos_left _ hg) h.1
    rcases Nat.lt_or_ge t.size 19 with h2 | h2
    · exact h2
    · have h3 : 10 ^ 19 ≤ 10 ^ t.size := Nat.pow_le_pow_right (by omega) h2
      have : (10 : Nat) ^ 19 = 10000000000000000000 := by decide
      omega
  · omega
theorem dec_end (n : Nat) (t : ByteArray) (h : DecInv n 0 t) (ht : ¬ t.size = 0) : Ending.returned (.string t) = .returned (.string ⟨(digs n).toArray⟩) := by
  rcases h.2 with ⟨h2, _⟩ | ⟨_, h2⟩
  · exact absurd h2 ht
  · have : t.data.toList = digs n := by simpa using h2
    have e : t = ⟨(digs n).toArray⟩ := by rw [← this]
    rw [← e]

theorem conv1 (wr : World) (x : Int) :
    (convert 41 9 (.slice (some ⟨wr.heap.size, 0, none⟩) 1 1)).run Try.prog (wr.alloc (.cells #[.int .u8 x] 5)) = .ok (.string (ByteArray.empty.push (UInt8.ofNat x.toNat))) (wr.alloc (.cells #[.int .u8 x] 5)) := by
  rw [run_convert_bytes_string _ _ _ 5 _ _ _ Try.underlying41 Try.underlying5 Try.underlying9]
  rw [run_bytesToString _ _ 1 1 [x] (by simp [loadCells, go_sem])]
  rfl

set_option maxHeartbeats 1000000 in
theorem decimal_any (n : Nat) (hn : n < 9223372036854775807) (w : World) :
    Calls Try.prog 6 #[.int .i64 n] w fun e w' => e = .returned (.string ⟨(digs n).toArray⟩) ∧ Below w.heap.size w w' := by
  go_enter Try.func6, Try.ntmps6
  go_wp2
  go_loopw [0, 3] (fun v s wr => ∃ (m : Nat) (t : ByteArray), v = .int .i64 m ∧ s = .string t ∧ Hid (DecInv n m t) ∧ m ≤ n ∧ Below w.heap.size w wr) (fun v s _ => (intOf v).toNat + blank s)
  case atStart => exact ⟨n, ⟨#[]⟩, rfl, rfl, ⟨by show n * 10 ^ 0 ≤ n; omega, .inl ⟨rfl, rfl⟩⟩, by omega, Below.refl _ _⟩
  case round =>
    obtain ⟨m, t, rfl, rfl, HI, hm, hb⟩ := hrel
    by_cases hg : 0 < m ∨ t.size = 0
    · have hsz := dec_size n m t hn HI.out hg
      have HS := Lib.hid (dec_step n m t HI.out hg)
      have hcv := conv1 wr (48 + (m : Int) % 10)
      have hms : (intOf (.int .i64 ((m / 10 : Nat) : Int))).toNat + blank (.string (ByteArray.empty.push (48 + UInt8.ofNat (m % 10)) ++ t)) < (intOf (.int .i64 (m : Int))).toNat + blank (.string t) := by
        simp only [intOf, blank, push_size, Int.toNat_natCast]
        rw [if_neg (by omega)]
        split <;> omega
      have HM := Lib.hid hms
      clear hms
      by_cases h0 : 0 < m
      · clear hg
        go_wp2
        exact ⟨⟨m / 10, _, by simp, rfl, HS.out, by omega, hb.alloc hb.size _⟩, by simpa using HM.out⟩
      · have hsz0 : t.size = 0 := by omega
        have hm1 : m < 1 := by omega
        have ht := empty_yes t hsz0
        have HZ := Lib.hid hsz0
        clear hsz0
        clear hg
        go_wp2
        exact ⟨⟨m / 10, _, by simp, rfl, HS.out, by omega, hb.alloc hb.size _⟩, by simpa using HM.out⟩
    · obtain rfl : m = 0 := by omega
      have hs : ¬ t.size = 0 := by omega
      have HE := Lib.hid (dec_end n t HI.out hs)
      have ht := empty_no t hs
      clear hg
      go_wp2
      go_ret
      exact ⟨HE.out, hb⟩
end Go.Proofs.Ytjfknijaohemgaa
