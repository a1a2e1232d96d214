/- Contracts of number.Hundredths, more. -/
import Derived.Test.YtjfknijaohemgaaNumH
namespace Go.Proofs.Ytjfknijaohemgaa
open Go.RowKit
set_option linter.unusedVariables false

theorem valGo_hi (l : List UInt8) : ∀ n : Int, (∃ c ∈ l, ¬ (48 ≤ c.toNat ∧ c.toNat ≤ 57)) → valGo l n = none := by
  induction l with
  | nil => intro n ⟨c, hc, _⟩; cases hc
  | cons a r ih =>
    intro n ⟨c, hc, hn⟩
    unfold valGo
    split
    · rcases List.mem_cons.1 hc with rfl | hc
      · exact absurd ‹_› hn
      · exact ih _ ⟨c, hc, hn⟩
    · rfl
theorem valR_hi (s : ByteArray) (h : ∃ c ∈ s.data.toList, ¬ (48 ≤ c.toNat ∧ c.toNat ≤ 57)) : valR s = (0, false) :=
  valR_none s (valGo_hi _ 0 h).symm
theorem byte_mem (s : ByteArray) (p : Nat) (h : p < s.size) : s[p] ∈ s.data.toList := by
  have : s[p] = s.data.toList[p]'(by simpa using h) := rfl
  rw [this]; exact List.getElem_mem _
theorem byte_mem_take (s : ByteArray) (p e : Nat) (h : p < s.size) (hpe : p < e) : s[p] ∈ (s.extract 0 e).data.toList := by
  have h2 : p < (s.extract 0 e).size := by simp; omega
  have h3 : (s.extract 0 e)[p] = s[p] := by simp [ByteArray.getElem_extract]
  rw [← h3]; exact byte_mem _ _ h2

set_option maxHeartbeats 4000000 in
theorem hund_nodot (s : ByteArray) (w : World) (hs : s.size ≤ 9223372036854775807) (hm : (s.toList == [109, 97, 120]) = false)
    (hbef : ∀ i (h : i < s.size), (s[i]).toNat < 128 ∧ (s[i]).toNat ≠ 46) :
    Calls Try.prog 21 #[.string s] w fun e w' => e = .returned (.tuple #[.int .i64 (hfin (valR s) (0, true) 2).1, .int .i64 (hfin (valR s) (0, true) 2).2]) ∧ Below w.heap.size w w' := by
  have HV1 := Lib.hid (value_any s)
  have HV2 := Lib.hid (value_any ⟨#[48, 48]⟩)
  have hb1 := valR_bd s
  obtain ⟨n1, k1, hr1⟩ : ∃ n k, valR s = (n, k) := ⟨_, _, rfl⟩
  rw [show valR ⟨#[48, 48]⟩ = (0, true) by decide +kernel] at HV2
  rw [hr1] at HV1 hb1 ⊢
  obtain ⟨hb10, hb11⟩ := hb1
  simp only at hb10 hb11
  clear hr1
  have HB := Lib.hid hbef
  clear hbef
  by_cases hk : k1 = true
  · subst hk
    by_cases hr : 10000 < 100 * n1
    · have HF := Lib.hid (show hfin (n1, true) (0, true) 2 = (0, 3) by simp [hfin, hr])
      go_enter Try.func21, Try.ntmps21
      go_wp2
      go_loopw [4, 5] (fun v4 v5 wr => ∃ pos : Nat, wr = w.iter s pos ∧ v4 = .string s ∧ v5 = .string ⟨#[48, 48]⟩) (fun _ _ wr => s.size - wr.iterPos w.heap.size)
      case atStart => exact ⟨0, rfl, rfl, rfl⟩
      obtain ⟨pos, rfl, rfl, rfl⟩ := hrel
      by_cases hp : pos < s.size
      · have hnx : ∀ ty, (Instr.next (.pointer (some ⟨w.heap.size, 0, none⟩)) true ty).run Try.prog (w.iter s pos) = _ := fun ty => run_next_any w s pos ty hp
        rw [decode_ascii s pos hp (HB.out pos hp).1] at hnx
        have hne : (((s[pos]).toNat : Int) == 46) = false := by simpa using (by have := (HB.out pos hp).2; omega)
        obtain ⟨c, hc⟩ : ∃ c : Nat, c = (s[pos]).toNat := ⟨_, rfl⟩
        rw [← hc] at hnx hne
        clear hc
        go_wp2
        go_roundw
        case rel => exact ⟨pos + 1, rfl, rfl, rfl⟩
        case measure => simp; omega
      have hnx : ∀ ty, (Instr.next (.pointer (some ⟨w.heap.size, 0, none⟩)) true ty).run Try.prog (w.iter s pos) = _ := fun ty => run_next_end w s pos ty hp
      go_wp2_with fail
      refine (HV1.out _).mono ?_
      rintro e w1 ⟨rfl, hq1⟩
      go_wp2_with fail
      refine (HV2.out _).mono ?_
      rintro e w2 ⟨rfl, hq2⟩
      have hb := ((Below.refl w.heap.size w).alloc (Nat.le_refl _) (.stringIter s pos)).trans ((hq1.trans (hq2.mono hq1.size)).mono (show w.heap.size ≤ (w.heap.push _).size by simp))
      go_wp2
      go_ret2
      exact ⟨ret_ii (by rw [HF.out]) (by rw [HF.out]), ⟨hb.os, hb.tape, hb.output, hb.size, hb.block⟩⟩
    · have HF := Lib.hid (show hfin (n1, true) (0, true) 2 = (100 * n1, 0) by simp [hfin, hr])
      go_enter Try.func21, Try.ntmps21
      go_wp2
      go_loopw [4, 5] (fun v4 v5 wr => ∃ pos : Nat, wr = w.iter s pos ∧ v4 = .string s ∧ v5 = .string ⟨#[48, 48]⟩) (fun _ _ wr => s.size - wr.iterPos w.heap.size)
      case atStart => exact ⟨0, rfl, rfl, rfl⟩
      obtain ⟨pos, rfl, rfl, rfl⟩ := hrel
      by_cases hp : pos < s.size
      · have hnx : ∀ ty, (Instr.next (.pointer (some ⟨w.heap.size, 0, none⟩)) true ty).run Try.prog (w.iter s pos) = _ := fun ty => run_next_any w s pos ty hp
        rw [decode_ascii s pos hp (HB.out pos hp).1] at hnx
        have hne : (((s[pos]).toNat : Int) == 46) = false := by simpa using (by have := (HB.out pos hp).2; omega)
        obtain ⟨c, hc⟩ : ∃ c : Nat, c = (s[pos]).toNat := ⟨_, rfl⟩
        rw [← hc] at hnx hne
        clear hc
        go_wp2
        go_roundw
        case rel => exact ⟨pos + 1, rfl, rfl, rfl⟩
        case measure => simp; omega
      have hnx : ∀ ty, (Instr.next (.pointer (some ⟨w.heap.size, 0, none⟩)) true ty).run Try.prog (w.iter s pos) = _ := fun ty => run_next_end w s pos ty hp
      go_wp2_with fail
      refine (HV1.out _).mono ?_
      rintro e w1 ⟨rfl, hq1⟩
      go_wp2_with fail
      refine (HV2.out _).mono ?_
      rintro e w2 ⟨rfl, hq2⟩
      have hb := ((Below.refl w.heap.size w).alloc (Nat.le_refl _) (.stringIter s pos)).trans ((hq1.trans (hq2.mono hq1.size)).mono (show w.heap.size ≤ (w.heap.push _).size by simp))
      go_wp2
      go_ret2
      exact ⟨ret_ii (by rw [HF.out]) (by rw [HF.out]), ⟨hb.os, hb.tape, hb.output, hb.size, hb.block⟩⟩
  · have hk : k1 = false := by simpa using hk
    subst hk
    have HF := Lib.hid (show hfin (n1, false) (0, true) 2 = (0, 2) by unfold hfin; rw [if_pos (by simp)])
    go_enter Try.func21, Try.ntmps21
    go_wp2
    go_loopw [4, 5] (fun v4 v5 wr => ∃ pos : Nat, wr = w.iter s pos ∧ v4 = .string s ∧ v5 = .string ⟨#[48, 48]⟩) (fun _ _ wr => s.size - wr.iterPos w.heap.size)
    case atStart => exact ⟨0, rfl, rfl, rfl⟩
    obtain ⟨pos, rfl, rfl, rfl⟩ := hrel
    by_cases hp : pos < s.size
    · have hnx : ∀ ty, (Instr.next (.pointer (some ⟨w.heap.size, 0, none⟩)) true ty).run Try.prog (w.iter s pos) = _ := fun ty => run_next_any w s pos ty hp
      rw [decode_ascii s pos hp (HB.out pos hp).1] at hnx
      have hne : (((s[pos]).toNat : Int) == 46) = false := by simpa using (by have := (HB.out pos hp).2; omega)
      obtain ⟨c, hc⟩ : ∃ c : Nat, c = (s[pos]).toNat := ⟨_, rfl⟩
      rw [← hc] at hnx hne
      clear hc
      go_wp2
      go_roundw
      case rel => exact ⟨pos + 1, rfl, rfl, rfl⟩
      case measure => simp; omega
    have hnx : ∀ ty, (Instr.next (.pointer (some ⟨w.heap.size, 0, none⟩)) true ty).run Try.prog (w.iter s pos) = _ := fun ty => run_next_end w s pos ty hp
    go_wp2_with fail
    refine (HV1.out _).mono ?_
    rintro e w1 ⟨rfl, hq1⟩
    go_wp2_with fail
    refine (HV2.out _).mono ?_
    rintro e w2 ⟨rfl, hq2⟩
    have hb := ((Below.refl w.heap.size w).alloc (Nat.le_refl _) (.stringIter s pos)).trans ((hq1.trans (hq2.mono hq1.size)).mono (show w.heap.size ≤ (w.heap.push _).size by simp))
    go_wp2
    go_ret2
    exact ⟨ret_ii (by rw [HF.out]) (by rw [HF.out]), ⟨hb.os, hb.tape, hb.output, hb.size, hb.block⟩⟩
end Go.Proofs.Ytjfknijaohemgaa
