/- NumberSuffixes: K, M, G and T multiply by powers of 1024; leading zeros change nothing. -/
import Derived.Test.YtjfknijaohemgaaDec
import Derived.Test.YtjfknijaohemgaaNumS
namespace Go.Proofs.Ytjfknijaohemgaa
open Go.RowKit
set_option linter.unusedVariables false

theorem valGo_append (a b : List UInt8) : ∀ m : Int, valGo (a ++ b) m = (valGo a m).bind (valGo b) := by
  induction a with
  | nil => intro m; rfl
  | cons c r ih =>
    intro m
    rw [List.cons_append]
    conv => lhs; unfold valGo
    conv => rhs; unfold valGo
    split
    · exact ih _
    · rfl
theorem digit_nat (n : Nat) : (48 + UInt8.ofNat (n % 10)).toNat = 48 + n % 10 := by
  have : n % 10 < 10 := Nat.mod_lt _ (by omega)
  rw [UInt8.toNat_add, UInt8.toNat_ofNat']
  simp
  omega
theorem valGo_digs (n : Nat) : n ≤ 1099511627776 → valGo (digs n) 0 = some (n : Int) := by
  induction n using Nat.strongRecOn with
  | ind n ih =>
    intro hn
    by_cases h : n < 10
    · rw [digs_lt n h, valGo, digit_nat, if_pos (by omega), valGo, if_neg (by omega)]
      congr 1; omega
    · rw [digs_ge n h, valGo_append, ih (n / 10) (by omega) (by omega)]
      show valGo _ _ = _
      rw [valGo, digit_nat, if_pos (by omega), valGo, if_neg (by omega)]
      congr 1; omega
theorem digs_len (f : Nat) : ∀ n, n < 10 ^ (f + 1) → (digs n).length ≤ f + 1 := by
  induction f with
  | zero => intro n h; rw [digs_lt n (by simpa using h)]; simp
  | succ f ih =>
    intro n h
    by_cases h0 : n < 10
    · rw [digs_lt n h0]; simp
    · rw [digs_ge n h0, List.length_append]
      have := ih (n / 10) (by rw [Nat.pow_succ] at h; omega)
      simp; omega
theorem digs_pos (n : Nat) : 0 < (digs n).length := by
  by_cases h0 : n < 10
  · rw [digs_lt n h0]; simp
  · rw [digs_ge n h0, List.length_append]; simp

/-- t is the text of n in decimal. -/
structure IsDec (t : ByteArray) (n : Nat) : Prop where
  val : valGo t.data.toList 0 = some (n : Int)
  pos : 0 < t.size
  len : t.size ≤ 40
  last : ∀ h : 0 < t.size, ¬ 0 < fac ((t[t.size - 1]).toNat : Int)

theorem valR_of (t : ByteArray) (n : Int) (h : valGo t.data.toList 0 = some n) (h0 : 0 < t.size) : valR t = (n, true) := by
  rw [valR_some t n h.symm]; simp [h0]
theorem not_max (t : ByteArray) (n : Int) (h : valGo t.data.toList 0 = some n) (b : ByteArray) : 0 < t.size → ((t ++ b).toList == [109, 97, 120]) = false := by
  intro h0
  rw [ByteArray.toList_eq]
  rw [beq_eq_false_iff_ne]
  intro e
  have e2 : t.data.toList ++ b.data.toList = [109, 97, 120] := by rw [← e]; simp
  match ht : t.data.toList with
  | [] => have : t.size = 0 := by rw [← ByteArray.size_data, ← Array.length_toList, ht]; rfl
          omega
  | c :: r =>
    rw [ht] at e2 h
    simp at e2
    rw [e2.1, valGo, if_neg (by decide)] at h
    cases h
theorem parseR_plain (t : ByteArray) (n : Nat) (h : IsDec t n) : parseR t = fin ((n : Int), true) 1 := by
  have hm := not_max t n h.val ⟨#[]⟩ h.pos
  rw [show t ++ ⟨#[]⟩ = t by apply ByteArray.ext; simp] at hm
  unfold parseR
  rw [if_neg (by rw [hm]; simp), dif_pos h.pos, if_neg (h.last h.pos), valR_of t n h.val h.pos]
theorem parseR_unit (t : ByteArray) (n : Nat) (h : IsDec t n) (c : UInt8) (hc : 0 < fac (c.toNat : Int)) : parseR (t ++ ⟨#[c]⟩) = fin ((n : Int), true) (fac (c.toNat : Int)) := by
  have hm := not_max t n h.val ⟨#[c]⟩ h.pos
  have hs : (t ++ ⟨#[c]⟩).size = t.size + 1 := by rw [ByteArray.size_append]; rfl
  have hl : ∀ hh : (t ++ ⟨#[c]⟩).size - 1 < (t ++ ⟨#[c]⟩).size, (t ++ ⟨#[c]⟩)[(t ++ ⟨#[c]⟩).size - 1] = c := by
    intro hh
    rw [ByteArray.getElem_append_right (by omega)]
    simp [hs]
    rfl
  have he : (t ++ ⟨#[c]⟩).extract 0 ((t ++ ⟨#[c]⟩).size - 1) = t := by
    apply ByteArray.ext; rw [hs]; simp
  unfold parseR
  rw [if_neg (by rw [hm]; simp), dif_pos (by omega), hl, if_pos hc, he, valR_of t n h.val h.pos]
theorem fac_digit (b : Nat) (h : 48 ≤ b ∧ b ≤ 57) : ¬ 0 < fac (b : Int) := by
  unfold fac
  rw [if_neg (by simp; omega), if_neg (by simp; omega), if_neg (by simp; omega), if_neg (by simp; omega)]
  omega
theorem last_digs (n : Nat) (h : 0 < (⟨(digs n).toArray⟩ : ByteArray).size) : ((⟨(digs n).toArray⟩ : ByteArray)[(⟨(digs n).toArray⟩ : ByteArray).size - 1]).toNat = 48 + n % 10 := by
  have e : ∀ (l : List UInt8) (c : UInt8) (hh : (⟨(l ++ [c]).toArray⟩ : ByteArray).size - 1 < (⟨(l ++ [c]).toArray⟩ : ByteArray).size), (⟨(l ++ [c]).toArray⟩ : ByteArray)[(⟨(l ++ [c]).toArray⟩ : ByteArray).size - 1] = c := by
    intro l c hh
    show ((l ++ [c]).toArray)[(l ++ [c]).toArray.size - 1] = c
    simp
  by_cases h0 : n < 10
  · have := e [] (48 + UInt8.ofNat (n % 10))
    simp only [digs_lt n h0, List.nil_append] at this ⊢
    rw [this (show 0 < 1 by omega), digit_nat]
  · have := e (digs (n / 10)) (48 + UInt8.ofNat (n % 10))
    simp only [digs_ge n h0] at this ⊢
    rw [this, digit_nat]
theorem isDec_digs (n : Nat) (hn : n < 4294967296) : IsDec ⟨(digs n).toArray⟩ n := by
  refine ⟨?_, ?_, ?_, ?_⟩
  · rw [show (⟨(digs n).toArray⟩ : ByteArray).data.toList = digs n from rfl]; exact valGo_digs n (by omega)
  · show 0 < (digs n).toArray.size
    rw [List.size_toArray]; exact digs_pos n
  · show (digs n).toArray.size ≤ 40
    rw [List.size_toArray]
    have := digs_len 20 n (Nat.lt_trans hn (by decide))
    omega
  · intro h
    rw [last_digs n h]
    exact fac_digit _ (by omega)
theorem isDec_zeros (t : ByteArray) (n : Nat) (h : IsDec t n) (hl : t.size ≤ 38) : IsDec (⟨#[48, 48]⟩ ++ t) n := by
  have hs : ((⟨#[48, 48]⟩ : ByteArray) ++ t).size = 2 + t.size := by rw [ByteArray.size_append]; rfl
  have hp := h.pos
  refine ⟨?_, by omega, by omega, ?_⟩
  · rw [ByteArray.data_append, Array.toList_append]
    show valGo (48 :: 48 :: t.data.toList) 0 = _
    rw [valGo, if_pos (by decide), valGo, if_pos (by decide)]
    exact h.val
  · intro hh
    have e : ((⟨#[48, 48]⟩ : ByteArray) ++ t)[((⟨#[48, 48]⟩ : ByteArray) ++ t).size - 1] = t[t.size - 1] := by
      rw [ByteArray.getElem_append_right (show 2 ≤ _ by omega)]
      congr 1
    rw [e]; exact h.last h.pos
end Go.Proofs.Ytjfknijaohemgaa
