/- Contracts of number.Hundredths. -/
import Derived.Test.YtjfknijaohemgaaNumB
namespace Go.Proofs.Ytjfknijaohemgaa
open Go.RowKit
set_option linter.unusedVariables false

/-- What number.Hundredths makes of the numbers ahead of the point and behind it, the latter one of len bytes. -/
def hfin (r q : Int × Bool) (len : Nat) : Int × Int :=
  if r.2 = false ∨ q.2 = false ∨ 2 < len then (0, 2) else
  if 10000 < 100 * r.1 + (if len = 1 then q.1 * 10 else q.1) then (0, 3) else (100 * r.1 + (if len = 1 then q.1 * 10 else q.1), 0)

theorem extract_size (s : ByteArray) (a : Nat) (h : a ≤ s.size) : (s.extract a s.size).size = s.size - a := by simp

set_option maxHeartbeats 4000000 in
theorem hund_dot (s : ByteArray) (w : World) (hs : s.size ≤ 9223372036854775807) (hm : (s.toList == [109, 97, 120]) = false) (d : Nat) (hd : d < s.size) (h46 : (s[d]).toNat = 46)
    (hbef : ∀ i (h : i < s.size), i < d → (s[i]).toNat < 128 ∧ (s[i]).toNat ≠ 46) :
    Calls Try.prog 21 #[.string s] w fun e w' => e = .returned (.tuple #[.int .i64 (hfin (valR (s.extract 0 d)) (valR (s.extract (d + 1) s.size)) (s.size - (d + 1))).1, .int .i64 (hfin (valR (s.extract 0 d)) (valR (s.extract (d + 1) s.size)) (s.size - (d + 1))).2]) ∧ Below w.heap.size w w' := by
  have HV1 := Lib.hid (value_any (s.extract 0 d))
  have HV2 := Lib.hid (value_any (s.extract (d + 1) s.size))
  have hb1 := valR_bd (s.extract 0 d)
  have hb2 := valR_bd (s.extract (d + 1) s.size)
  obtain ⟨n1, k1, hr1⟩ : ∃ n k, valR (s.extract 0 d) = (n, k) := ⟨_, _, rfl⟩
  obtain ⟨n2, k2, hr2⟩ : ∃ n k, valR (s.extract (d + 1) s.size) = (n, k) := ⟨_, _, rfl⟩
  rw [hr1] at HV1 hb1 ⊢
  rw [hr2] at HV2 hb2 ⊢
  obtain ⟨hb10, hb11⟩ := hb1
  obtain ⟨hb20, hb21⟩ := hb2
  simp only at hb10 hb11 hb20 hb21
  clear hr1 hr2
  have HB := Lib.hid hbef
  have H46 := Lib.hid h46
  clear hbef h46
  by_cases hk : k1 = true
  · subst hk
    by_cases hk2 : k2 = true
    · subst hk2
      by_cases hl : 2 < s.size - (d + 1)
      · have HF := Lib.hid (show hfin (n1, true) (n2, true) (s.size - (d + 1)) = (0, 2) by unfold hfin; rw [if_pos (by simp; omega)])
        have hl2 : (2 : Int) < ((s.size : Int) - ((d : Int) + 1)) := by omega
        go_enter Try.func21, Try.ntmps21
        go_wp2
        go_loopw [] (fun wr => ∃ pos : Nat, wr = w.iter s pos ∧ pos ≤ d) (fun wr => s.size - wr.iterPos w.heap.size)
        case atStart => exact ⟨0, rfl, by omega⟩
        obtain ⟨pos, rfl, hpd⟩ := hrel
        have hp : pos < s.size := by omega
        have hnx : ∀ ty, (Instr.next (.pointer (some ⟨w.heap.size, 0, none⟩)) true ty).run Try.prog (w.iter s pos) = _ := fun ty => run_next_any w s pos ty hp
        by_cases hlt : pos < d
        · rw [decode_ascii s pos hp (HB.out pos hp hlt).1] at hnx
          have hne : (((s[pos]).toNat : Int) == 46) = false := by simpa using (by have := (HB.out pos hp hlt).2; omega)
          obtain ⟨c, hc⟩ : ∃ c : Nat, c = (s[pos]).toNat := ⟨_, rfl⟩
          rw [← hc] at hnx hne
          clear hc
          go_wp2
          go_roundw
          case rel => exact ⟨pos + 1, rfl, by omega⟩
          case measure => simp; omega
        obtain rfl : pos = d := by omega
        rw [decode_ascii s pos hp (by have := H46.out; omega), H46.out] at hnx
        clear hlt hpd
        go_wp2
        go_quiet (fail)
        go_wp2_with fail
        refine (HV1.out _).mono ?_
        rintro e w1 ⟨rfl, hq1⟩
        go_wp2_with fail
        refine (HV2.out _).mono ?_
        rintro e w2 ⟨rfl, hq2⟩
        have hb := (below_drewN ((Below.refl w.heap.size w).alloc (Nat.le_refl _) (.stringIter s (pos + 1))) nq).trans ((hq1.trans (hq2.mono hq1.size)).mono (show w.heap.size ≤ (w.heap.push _).size by simp))
        go_wp2
        go_ret2
        exact ⟨ret_ii (by rw [HF.out]) (by rw [HF.out]), ⟨hb.os, hb.tape, hb.output, hb.size, hb.block⟩⟩
      · have hl2 : ((s.size : Int) - ((d : Int) + 1)) ≤ 2 := by omega
        by_cases h1 : s.size - (d + 1) = 1
        · have hl3 : (((s.size : Int) - ((d : Int) + 1)) == 1) = true := by simp; omega
          by_cases hr : 10000 < 100 * n1 + n2 * 10
          · have HF := Lib.hid (show hfin (n1, true) (n2, true) (s.size - (d + 1)) = (0, 3) by unfold hfin; rw [if_neg (by simp; omega)]; simp only; rw [if_pos h1, if_pos hr])
            have H1 := Lib.hid h1
            clear h1
            go_enter Try.func21, Try.ntmps21
            go_wp2
            go_loopw [] (fun wr => ∃ pos : Nat, wr = w.iter s pos ∧ pos ≤ d) (fun wr => s.size - wr.iterPos w.heap.size)
            case atStart => exact ⟨0, rfl, by omega⟩
            obtain ⟨pos, rfl, hpd⟩ := hrel
            have hp : pos < s.size := by omega
            have hnx : ∀ ty, (Instr.next (.pointer (some ⟨w.heap.size, 0, none⟩)) true ty).run Try.prog (w.iter s pos) = _ := fun ty => run_next_any w s pos ty hp
            by_cases hlt : pos < d
            · rw [decode_ascii s pos hp (HB.out pos hp hlt).1] at hnx
              have hne : (((s[pos]).toNat : Int) == 46) = false := by simpa using (by have := (HB.out pos hp hlt).2; omega)
              obtain ⟨c, hc⟩ : ∃ c : Nat, c = (s[pos]).toNat := ⟨_, rfl⟩
              rw [← hc] at hnx hne
              clear hc
              go_wp2
              go_roundw
              case rel => exact ⟨pos + 1, rfl, by omega⟩
              case measure => simp; omega
            obtain rfl : pos = d := by omega
            rw [decode_ascii s pos hp (by have := H46.out; omega), H46.out] at hnx
            clear hlt hpd
            go_wp2
            go_quiet (fail)
            go_wp2_with fail
            refine (HV1.out _).mono ?_
            rintro e w1 ⟨rfl, hq1⟩
            go_wp2_with fail
            refine (HV2.out _).mono ?_
            rintro e w2 ⟨rfl, hq2⟩
            have hb := (below_drewN ((Below.refl w.heap.size w).alloc (Nat.le_refl _) (.stringIter s (pos + 1))) nq).trans ((hq1.trans (hq2.mono hq1.size)).mono (show w.heap.size ≤ (w.heap.push _).size by simp))
            go_wp2
            go_ret2
            exact ⟨ret_ii (by rw [HF.out]) (by rw [HF.out]), ⟨hb.os, hb.tape, hb.output, hb.size, hb.block⟩⟩
          · have HF := Lib.hid (show hfin (n1, true) (n2, true) (s.size - (d + 1)) = (100 * n1 + n2 * 10, 0) by unfold hfin; rw [if_neg (by simp; omega)]; simp only; rw [if_pos h1, if_neg hr])
            have H1 := Lib.hid h1
            clear h1
            go_enter Try.func21, Try.ntmps21
            go_wp2
            go_loopw [] (fun wr => ∃ pos : Nat, wr = w.iter s pos ∧ pos ≤ d) (fun wr => s.size - wr.iterPos w.heap.size)
            case atStart => exact ⟨0, rfl, by omega⟩
            obtain ⟨pos, rfl, hpd⟩ := hrel
            have hp : pos < s.size := by omega
            have hnx : ∀ ty, (Instr.next (.pointer (some ⟨w.heap.size, 0, none⟩)) true ty).run Try.prog (w.iter s pos) = _ := fun ty => run_next_any w s pos ty hp
            by_cases hlt : pos < d
            · rw [decode_ascii s pos hp (HB.out pos hp hlt).1] at hnx
              have hne : (((s[pos]).toNat : Int) == 46) = false := by simpa using (by have := (HB.out pos hp hlt).2; omega)
              obtain ⟨c, hc⟩ : ∃ c : Nat, c = (s[pos]).toNat := ⟨_, rfl⟩
              rw [← hc] at hnx hne
              clear hc
              go_wp2
              go_roundw
              case rel => exact ⟨pos + 1, rfl, by omega⟩
              case measure => simp; omega
            obtain rfl : pos = d := by omega
            rw [decode_ascii s pos hp (by have := H46.out; omega), H46.out] at hnx
            clear hlt hpd
            go_wp2
            go_quiet (fail)
            go_wp2_with fail
            refine (HV1.out _).mono ?_
            rintro e w1 ⟨rfl, hq1⟩
            go_wp2_with fail
            refine (HV2.out _).mono ?_
            rintro e w2 ⟨rfl, hq2⟩
            have hb := (below_drewN ((Below.refl w.heap.size w).alloc (Nat.le_refl _) (.stringIter s (pos + 1))) nq).trans ((hq1.trans (hq2.mono hq1.size)).mono (show w.heap.size ≤ (w.heap.push _).size by simp))
            go_wp2
            go_ret2
            exact ⟨ret_ii (by rw [HF.out]) (by rw [HF.out]), ⟨hb.os, hb.tape, hb.output, hb.size, hb.block⟩⟩
        · have hl3 : (((s.size : Int) - ((d : Int) + 1)) == 1) = false := by simp; omega
          by_cases hr : 10000 < 100 * n1 + n2
          · have HF := Lib.hid (show hfin (n1, true) (n2, true) (s.size - (d + 1)) = (0, 3) by unfold hfin; rw [if_neg (by simp; omega)]; simp only; rw [if_neg h1, if_pos hr])
            have H1 := Lib.hid h1
            clear h1
            go_enter Try.func21, Try.ntmps21
            go_wp2
            go_loopw [] (fun wr => ∃ pos : Nat, wr = w.iter s pos ∧ pos ≤ d) (fun wr => s.size - wr.iterPos w.heap.size)
            case atStart => exact ⟨0, rfl, by omega⟩
            obtain ⟨pos, rfl, hpd⟩ := hrel
            have hp : pos < s.size := by omega
            have hnx : ∀ ty, (Instr.next (.pointer (some ⟨w.heap.size, 0, none⟩)) true ty).run Try.prog (w.iter s pos) = _ := fun ty => run_next_any w s pos ty hp
            by_cases hlt : pos < d
            · rw [decode_ascii s pos hp (HB.out pos hp hlt).1] at hnx
              have hne : (((s[pos]).toNat : Int) == 46) = false := by simpa using (by have := (HB.out pos hp hlt).2; omega)
              obtain ⟨c, hc⟩ : ∃ c : Nat, c = (s[pos]).toNat := ⟨_, rfl⟩
              rw [← hc] at hnx hne
              clear hc
              go_wp2
              go_roundw
              case rel => exact ⟨pos + 1, rfl, by omega⟩
              case measure => simp; omega
            obtain rfl : pos = d := by omega
            rw [decode_ascii s pos hp (by have := H46.out; omega), H46.out] at hnx
            clear hlt hpd
            go_wp2
            go_quiet (fail)
            go_wp2_with fail
            refine (HV1.out _).mono ?_
            rintro e w1 ⟨rfl, hq1⟩
            go_wp2_with fail
            refine (HV2.out _).mono ?_
            rintro e w2 ⟨rfl, hq2⟩
            have hb := (below_drewN ((Below.refl w.heap.size w).alloc (Nat.le_refl _) (.stringIter s (pos + 1))) nq).trans ((hq1.trans (hq2.mono hq1.size)).mono (show w.heap.size ≤ (w.heap.push _).size by simp))
            go_wp2
            go_ret2
            exact ⟨ret_ii (by rw [HF.out]) (by rw [HF.out]), ⟨hb.os, hb.tape, hb.output, hb.size, hb.block⟩⟩
          · have HF := Lib.hid (show hfin (n1, true) (n2, true) (s.size - (d + 1)) = (100 * n1 + n2, 0) by unfold hfin; rw [if_neg (by simp; omega)]; simp only; rw [if_neg h1, if_neg hr])
            have H1 := Lib.hid h1
            clear h1
            go_enter Try.func21, Try.ntmps21
            go_wp2
            go_loopw [] (fun wr => ∃ pos : Nat, wr = w.iter s pos ∧ pos ≤ d) (fun wr => s.size - wr.iterPos w.heap.size)
            case atStart => exact ⟨0, rfl, by omega⟩
            obtain ⟨pos, rfl, hpd⟩ := hrel
            have hp : pos < s.size := by omega
            have hnx : ∀ ty, (Instr.next (.pointer (some ⟨w.heap.size, 0, none⟩)) true ty).run Try.prog (w.iter s pos) = _ := fun ty => run_next_any w s pos ty hp
            by_cases hlt : pos < d
            · rw [decode_ascii s pos hp (HB.out pos hp hlt).1] at hnx
              have hne : (((s[pos]).toNat : Int) == 46) = false := by simpa using (by have := (HB.out pos hp hlt).2; omega)
              obtain ⟨c, hc⟩ : ∃ c : Nat, c = (s[pos]).toNat := ⟨_, rfl⟩
              rw [← hc] at hnx hne
              clear hc
              go_wp2
              go_roundw
              case rel => exact ⟨pos + 1, rfl, by omega⟩
              case measure => simp; omega
            obtain rfl : pos = d := by omega
            rw [decode_ascii s pos hp (by have := H46.out; omega), H46.out] at hnx
            clear hlt hpd
            go_wp2
            go_quiet (fail)
            go_wp2_with fail
            refine (HV1.out _).mono ?_
            rintro e w1 ⟨rfl, hq1⟩
            go_wp2_with fail
            refine (HV2.out _).mono ?_
            rintro e w2 ⟨rfl, hq2⟩
            have hb := (below_drewN ((Below.refl w.heap.size w).alloc (Nat.le_refl _) (.stringIter s (pos + 1))) nq).trans ((hq1.trans (hq2.mono hq1.size)).mono (show w.heap.size ≤ (w.heap.push _).size by simp))
            go_wp2
            go_ret2
            exact ⟨ret_ii (by rw [HF.out]) (by rw [HF.out]), ⟨hb.os, hb.tape, hb.output, hb.size, hb.block⟩⟩
    · have hk2 : k2 = false := by simpa using hk2
      subst hk2
      have HF := Lib.hid (show hfin (n1, true) (n2, false) (s.size - (d + 1)) = (0, 2) by unfold hfin; rw [if_pos (by simp)])
      go_enter Try.func21, Try.ntmps21
      go_wp2
      go_loopw [] (fun wr => ∃ pos : Nat, wr = w.iter s pos ∧ pos ≤ d) (fun wr => s.size - wr.iterPos w.heap.size)
      case atStart => exact ⟨0, rfl, by omega⟩
      obtain ⟨pos, rfl, hpd⟩ := hrel
      have hp : pos < s.size := by omega
      have hnx : ∀ ty, (Instr.next (.pointer (some ⟨w.heap.size, 0, none⟩)) true ty).run Try.prog (w.iter s pos) = _ := fun ty => run_next_any w s pos ty hp
      by_cases hlt : pos < d
      · rw [decode_ascii s pos hp (HB.out pos hp hlt).1] at hnx
        have hne : (((s[pos]).toNat : Int) == 46) = false := by simpa using (by have := (HB.out pos hp hlt).2; omega)
        obtain ⟨c, hc⟩ : ∃ c : Nat, c = (s[pos]).toNat := ⟨_, rfl⟩
        rw [← hc] at hnx hne
        clear hc
        go_wp2
        go_roundw
        case rel => exact ⟨pos + 1, rfl, by omega⟩
        case measure => simp; omega
      obtain rfl : pos = d := by omega
      rw [decode_ascii s pos hp (by have := H46.out; omega), H46.out] at hnx
      clear hlt hpd
      go_wp2
      go_quiet (fail)
      go_wp2_with fail
      refine (HV1.out _).mono ?_
      rintro e w1 ⟨rfl, hq1⟩
      go_wp2_with fail
      refine (HV2.out _).mono ?_
      rintro e w2 ⟨rfl, hq2⟩
      have hb := (below_drewN ((Below.refl w.heap.size w).alloc (Nat.le_refl _) (.stringIter s (pos + 1))) nq).trans ((hq1.trans (hq2.mono hq1.size)).mono (show w.heap.size ≤ (w.heap.push _).size by simp))
      go_wp2
      go_ret2
      exact ⟨ret_ii (by rw [HF.out]) (by rw [HF.out]), ⟨hb.os, hb.tape, hb.output, hb.size, hb.block⟩⟩
  · have hk : k1 = false := by simpa using hk
    subst hk
    have HF := Lib.hid (show hfin (n1, false) (n2, k2) (s.size - (d + 1)) = (0, 2) by unfold hfin; rw [if_pos (by simp)])
    go_enter Try.func21, Try.ntmps21
    go_wp2
    go_loopw [] (fun wr => ∃ pos : Nat, wr = w.iter s pos ∧ pos ≤ d) (fun wr => s.size - wr.iterPos w.heap.size)
    case atStart => exact ⟨0, rfl, by omega⟩
    obtain ⟨pos, rfl, hpd⟩ := hrel
    have hp : pos < s.size := by omega
    have hnx : ∀ ty, (Instr.next (.pointer (some ⟨w.heap.size, 0, none⟩)) true ty).run Try.prog (w.iter s pos) = _ := fun ty => run_next_any w s pos ty hp
    by_cases hlt : pos < d
    · rw [decode_ascii s pos hp (HB.out pos hp hlt).1] at hnx
      have hne : (((s[pos]).toNat : Int) == 46) = false := by simpa using (by have := (HB.out pos hp hlt).2; omega)
      obtain ⟨c, hc⟩ : ∃ c : Nat, c = (s[pos]).toNat := ⟨_, rfl⟩
      rw [← hc] at hnx hne
      clear hc
      go_wp2
      go_roundw
      case rel => exact ⟨pos + 1, rfl, by omega⟩
      case measure => simp; omega
    obtain rfl : pos = d := by omega
    rw [decode_ascii s pos hp (by have := H46.out; omega), H46.out] at hnx
    clear hlt hpd
    go_wp2
    go_quiet (fail)
    go_wp2_with fail
    refine (HV1.out _).mono ?_
    rintro e w1 ⟨rfl, hq1⟩
    go_wp2_with fail
    refine (HV2.out _).mono ?_
    rintro e w2 ⟨rfl, hq2⟩
    have hb := (below_drewN ((Below.refl w.heap.size w).alloc (Nat.le_refl _) (.stringIter s (pos + 1))) nq).trans ((hq1.trans (hq2.mono hq1.size)).mono (show w.heap.size ≤ (w.heap.push _).size by simp))
    go_wp2
    go_ret2
    exact ⟨ret_ii (by rw [HF.out]) (by rw [HF.out]), ⟨hb.os, hb.tape, hb.output, hb.size, hb.block⟩⟩
end Go.Proofs.Ytjfknijaohemgaa
