/- Plain mathematics about numbers in texts: no program. -/
import Derived.Test.YtjfknijaohemgaaRows
import Derived.WalkKit
namespace Go.Proofs.Ytjfknijaohemgaa
open Go.RowKit

theorem ret_i {k : IntKind} {a b : Int} (h : a = b) : Ending.returned (.int k a) = .returned (.int k b) := by rw [h]
theorem ret_b {a b : Bool} (h : a = b) : Ending.returned (.bool a) = .returned (.bool b) := by rw [h]
theorem ret_ib {k : IntKind} {a b : Int} {c d : Bool} (h : a = b) (h2 : c = d) : Ending.returned (.tuple #[.int k a, .bool c]) = .returned (.tuple #[.int k b, .bool d]) := by rw [h, h2]
theorem ret_ii {k l : IntKind} {a b c d : Int} (h : a = b) (h2 : c = d) : Ending.returned (.tuple #[.int k a, .int l c]) = .returned (.tuple #[.int k b, .int l d]) := by rw [h, h2]

/-- The number of some digits, from n on, held at MaxValue + 1; none where a byte is no digit. -/
def valGo : List UInt8 → Int → Option Int
  | [], n => some n
  | c :: r, n => if 48 ≤ c.toNat ∧ c.toNat ≤ 57 then valGo r (if 1099511627777 < 10 * n + ((c.toNat : Int) - 48) then 1099511627777 else 10 * n + ((c.toNat : Int) - 48)) else none

/-- What number.value answers. -/
def valR (s : ByteArray) : Int × Bool :=
  match valGo s.data.toList 0 with
  | some n => (n, decide (0 < s.size))
  | none => (0, false)

theorem drop_cons (s : ByteArray) (pos : Nat) (h : pos < s.size) : s.data.toList.drop pos = s[pos] :: s.data.toList.drop (pos + 1) := by
  rw [List.drop_eq_getElem_cons (by simpa using h)]; rfl
theorem valGo_end (s : ByteArray) (pos : Nat) (m : Int) (h : ¬ pos < s.size) : valGo (s.data.toList.drop pos) m = some m := by
  rw [List.drop_of_length_le (by simp; omega)]; rfl
theorem valGo_digit (s : ByteArray) (pos : Nat) (m : Int) (h : pos < s.size) (h1 : 48 ≤ (s[pos]).toNat) (h2 : (s[pos]).toNat ≤ 57) :
    valGo (s.data.toList.drop pos) m = valGo (s.data.toList.drop (pos + 1)) (if 1099511627777 < 10 * m + (((s[pos]).toNat : Int) - 48) then 1099511627777 else 10 * m + (((s[pos]).toNat : Int) - 48)) := by
  rw [drop_cons s pos h, valGo, if_pos ⟨h1, h2⟩]
theorem valGo_bad (s : ByteArray) (pos : Nat) (m : Int) (h : pos < s.size) (h1 : ¬ (48 ≤ (s[pos]).toNat ∧ (s[pos]).toNat ≤ 57)) :
    valGo (s.data.toList.drop pos) m = none := by
  rw [drop_cons s pos h, valGo, if_neg h1]
theorem valR_none (s : ByteArray) (h : none = valGo s.data.toList 0) : valR s = (0, false) := by
  unfold valR; rw [← h]
theorem valR_some (s : ByteArray) (n : Int) (h : some n = valGo s.data.toList 0) : valR s = (n, decide (0 < s.size)) := by
  unfold valR; rw [← h]

def clip (n : Int) : Int := if 4611686018427387904 ≤ n then 4611686018427387904 else if n < 0 then 0 else if n ≤ 1099511627776 then n else 1099511627776
def addc (a b : Int) : Int := if clip a = 4611686018427387904 ∨ clip b = 4611686018427387904 then 4611686018427387904 else if 1099511627776 < clip a + clip b then 1099511627776 else clip a + clip b
end Go.Proofs.Ytjfknijaohemgaa
