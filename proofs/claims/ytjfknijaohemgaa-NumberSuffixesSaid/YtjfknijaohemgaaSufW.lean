/- The walk of NumberSuffixes. -/
import Derived.Test.YtjfknijaohemgaaSuf
namespace Go.Proofs.Ytjfknijaohemgaa
open Go.RowKit
set_option linter.unusedVariables false

theorem parse_dec (t : ByteArray) (n : Nat) (h : IsDec t n) (w : World) (u : Int) (x : ByteArray) (hx : (x = ⟨#[]⟩ ∧ u = 1) ∨ (∃ c, x = ⟨#[c]⟩ ∧ fac (c.toNat : Int) = u ∧ 0 < u)) :
    Calls Try.prog 7 #[.string (t ++ x)] w fun e w' => e = .returned (.tuple #[.int .i64 (fin ((n : Int), true) u).1, .int .i64 (fin ((n : Int), true) u).2]) ∧ Below w.heap.size w w' := by
  have hl := h.len
  rcases hx with ⟨rfl, rfl⟩ | ⟨c, rfl, hc, hu⟩
  · rw [show t ++ ⟨#[]⟩ = t by apply ByteArray.ext; simp]
    have := parse_any t w (by omega)
    rw [parseR_plain t n h] at this
    exact this
  · have hs : (t ++ ⟨#[c]⟩).size = t.size + 1 := by rw [ByteArray.size_append]; rfl
    have := parse_any (t ++ ⟨#[c]⟩) w (by omega)
    rw [parseR_unit t n h c (by omega), hc] at this
    exact this
theorem v_bd (a0 : Int) (k : Nat) (h0 : 0 ≤ a0) (h1 : a0 ≤ 4294967295) : ∃ v : Nat, a0 / 2 ^ k = (v : Int) ∧ v < 4294967296 := by
  have hp : (0 : Int) < 2 ^ k := Int.pow_pos (by omega)
  have q0 : 0 ≤ a0 / 2 ^ k := Int.ediv_nonneg h0 (by omega)
  have q1 : a0 / 2 ^ k ≤ a0 := Int.ediv_le_self _ h0
  exact ⟨(a0 / 2 ^ k).toNat, by omega, by omega⟩

set_option maxRecDepth 100000 in
set_option maxHeartbeats 4000000 in
theorem suf_walk (a0 a1 : Int) (w : World) (h00 : 0 ≤ a0) (h01 : a0 ≤ 4294967295) (h10 : 0 ≤ a1) (h11 : a1 ≤ 255) :
    Calls Try.prog 3 #[.int .u32 a0, .int .u8 a1] w fun e w' => e = .returned (.bool true) ∧ Below w.heap.size w w' := by
  go_enter Try.func3, Try.ntmps3
  go_wp2_with fail
  obtain ⟨v, hv, hv9⟩ := v_bd a0 (a1 % 32).toNat h00 h01
  rw [hv]
  clear hv
  refine (decimal_any v (by omega) w).mono ?_
  rintro e w1 ⟨rfl, hb1⟩
  have HT := Lib.hid (isDec_digs v hv9)
  have hlen : (⟨(digs v).toArray⟩ : ByteArray).size ≤ 30 := by
    show (digs v).toArray.size ≤ 30
    rw [List.size_toArray]
    have := digs_len 20 v (Nat.lt_trans hv9 (by decide))
    omega
  generalize (⟨(digs v).toArray⟩ : ByteArray) = t at HT hlen
  have HZ := Lib.hid (isDec_zeros t v HT.out (by omega))
  go_wp2_with fail
  generalize hW : w1.alloc (Obj.cells #[Value.string ⟨#[]⟩, Value.string ⟨#[75]⟩, Value.string ⟨#[77]⟩, Value.string ⟨#[71]⟩, Value.string ⟨#[84]⟩] 9) = W
  have hsz : w1.heap.size < W.heap.size := by rw [← hW]; simp
  have hbW : Below w.heap.size w W := by rw [← hW]; exact hb1.alloc hb1.size _
  have HBW := Lib.hid hbW
  have HE := Lib.hid (show (∀ k x, [(⟨#[]⟩ : ByteArray), ⟨#[75]⟩, ⟨#[77]⟩, ⟨#[71]⟩, ⟨#[84]⟩][k]? = some x → W.cell? ⟨w1.heap.size, k, none⟩ = some (.string x)) by
    intro k x hk
    rw [← hW]
    match k, hk with
    | 0, hk | 1, hk | 2, hk | 3, hk | 4, hk => simp at hk; subst hk; simp [go_sem]
    | k + 5, hk => simp at hk)
  clear hW hbW hb1
  go_loopw [7, 24] (fun u i wr => ∃ k : Nat, k ≤ 5 ∧ i = .int .i64 k ∧ u = .int .i64 (1024 ^ k : Nat) ∧ Below W.heap.size W wr) (fun _ i _ => 5 - (intOf i).toNat)
  case atStart => exact ⟨0, by omega, rfl, rfl, Below.refl _ _⟩
  case round =>
    obtain ⟨k, hk, rfl, rfl, hbr⟩ := hrel
    obtain rfl | rfl | rfl | rfl | rfl | rfl : k = 0 ∨ k = 1 ∨ k = 2 ∨ k = 3 ∨ k = 4 ∨ k = 5 := by omega
    · have hc := HE.out 0 ⟨#[]⟩ rfl
      rw [← hbr.cell (p := ⟨w1.heap.size, 0, none⟩) hsz] at hc
      have P1 := Lib.hid (fun w => parse_dec t v HT.out w 1 ⟨#[]⟩ (.inl ⟨rfl, rfl⟩))
      have P2 := Lib.hid (fun w => parse_dec _ v HZ.out w 1 ⟨#[]⟩ (.inl ⟨rfl, rfl⟩))
      have hmc : (((1024 ^ 0 : Nat) : Int)) = 1 := by decide
      simp only [hmc]
      clear hmc
      have hk1 := Lib.hid hk
      clear hk
      by_cases hv0 : v = 0
      · have hz0 : ((v : Int) == 0) = true := by simp; omega
        have HF := Lib.hid (show fin ((v : Int), true) 1 = ((v : Int) * 1, 0) by unfold fin; rw [if_neg (by simp), if_neg (by omega)])
        rw [HF.out] at P1 P2
        have hv1 : v < 1 := by omega
        clear hv0
        go_wp2_with fail
        refine (P1.out _).mono ?_
        rintro e w3 ⟨rfl, h3⟩
        go_wp2_with fail
        refine (P2.out _).mono ?_
        rintro e w4 ⟨rfl, h4⟩
        have hb4 := (h3.mono hbr.size).trans (h4.mono (Nat.le_trans hbr.size h3.size))
        have HB4 := Lib.hid (hbr.trans hb4)
        clear h3 h4 hb4 hc
        go_wp2_with fail
        go_roundw
        case rel => exact ⟨1, by omega, by go_num, by rw [show ((1024 ^ 1 : Nat) : Int) = 1024 by decide], HB4.out⟩
        case measure => simp [intOf]
      · have hz0 : ((v : Int) == 0) = false := by simp; omega
        by_cases hq : (v : Int) ≤ 1099511627776
        · have HF := Lib.hid (show fin ((v : Int), true) 1 = ((v : Int) * 1, 0) by unfold fin; rw [if_neg (by simp), if_neg (by simp only; omega)])
          rw [HF.out] at P1 P2
          clear hv0
          go_wp2_with fail
          refine (P1.out _).mono ?_
          rintro e w3 ⟨rfl, h3⟩
          go_wp2_with fail
          refine (P2.out _).mono ?_
          rintro e w4 ⟨rfl, h4⟩
          have hb4 := (h3.mono hbr.size).trans (h4.mono (Nat.le_trans hbr.size h3.size))
          have HB4 := Lib.hid (hbr.trans hb4)
          clear h3 h4 hb4 hc
          go_wp2_with fail
          go_roundw
          case rel => exact ⟨1, by omega, by go_num, by rw [show ((1024 ^ 1 : Nat) : Int) = 1024 by decide], HB4.out⟩
          case measure => simp [intOf]
        · exfalso; omega
    · have hc := HE.out 1 ⟨#[75]⟩ rfl
      rw [← hbr.cell (p := ⟨w1.heap.size, 1, none⟩) hsz] at hc
      have P1 := Lib.hid (fun w => parse_dec t v HT.out w 1024 ⟨#[75]⟩ (.inr ⟨_, rfl, by decide, by omega⟩))
      have P2 := Lib.hid (fun w => parse_dec _ v HZ.out w 1024 ⟨#[75]⟩ (.inr ⟨_, rfl, by decide, by omega⟩))
      have hmc : (((1024 ^ 1 : Nat) : Int)) = 1024 := by decide
      simp only [hmc]
      clear hmc
      have hk1 := Lib.hid hk
      clear hk
      by_cases hv0 : v = 0
      · have hz0 : ((v : Int) == 0) = true := by simp; omega
        have HF := Lib.hid (show fin ((v : Int), true) 1024 = ((v : Int) * 1024, 0) by unfold fin; rw [if_neg (by simp), if_neg (by omega)])
        rw [HF.out] at P1 P2
        have hv1 : v < 1 := by omega
        clear hv0
        go_wp2_with fail
        refine (P1.out _).mono ?_
        rintro e w3 ⟨rfl, h3⟩
        go_wp2_with fail
        refine (P2.out _).mono ?_
        rintro e w4 ⟨rfl, h4⟩
        have hb4 := (h3.mono hbr.size).trans (h4.mono (Nat.le_trans hbr.size h3.size))
        have HB4 := Lib.hid (hbr.trans hb4)
        clear h3 h4 hb4 hc
        go_wp2_with fail
        go_roundw
        case rel => exact ⟨2, by omega, by go_num, by rw [show ((1024 ^ 2 : Nat) : Int) = 1048576 by decide], HB4.out⟩
        case measure => simp [intOf]
      · have hz0 : ((v : Int) == 0) = false := by simp; omega
        by_cases hq : (v : Int) ≤ 1073741824
        · have HF := Lib.hid (show fin ((v : Int), true) 1024 = ((v : Int) * 1024, 0) by unfold fin; rw [if_neg (by simp), if_neg (by simp only; omega)])
          rw [HF.out] at P1 P2
          clear hv0
          go_wp2_with fail
          refine (P1.out _).mono ?_
          rintro e w3 ⟨rfl, h3⟩
          go_wp2_with fail
          refine (P2.out _).mono ?_
          rintro e w4 ⟨rfl, h4⟩
          have hb4 := (h3.mono hbr.size).trans (h4.mono (Nat.le_trans hbr.size h3.size))
          have HB4 := Lib.hid (hbr.trans hb4)
          clear h3 h4 hb4 hc
          go_wp2_with fail
          go_roundw
          case rel => exact ⟨2, by omega, by go_num, by rw [show ((1024 ^ 2 : Nat) : Int) = 1048576 by decide], HB4.out⟩
          case measure => simp [intOf]
        · have HF := Lib.hid (show fin ((v : Int), true) 1024 = (0, 3) by unfold fin; rw [if_neg (by simp), if_pos (by simp only; omega)])
          rw [HF.out] at P1 P2
          have hq2 : 1073741824 < v := by omega
          
          clear hv0 hq
          go_wp2_with fail
          refine (P1.out _).mono ?_
          rintro e w3 ⟨rfl, h3⟩
          go_wp2_with fail
          refine (P2.out _).mono ?_
          rintro e w4 ⟨rfl, h4⟩
          have hb4 := (h3.mono hbr.size).trans (h4.mono (Nat.le_trans hbr.size h3.size))
          have HB4 := Lib.hid (hbr.trans hb4)
          clear h3 h4 hb4 hc
          go_wp2_with fail
          go_roundw
          case rel => exact ⟨2, by omega, by go_num, by rw [show ((1024 ^ 2 : Nat) : Int) = 1048576 by decide], HB4.out⟩
          case measure => simp [intOf]
    · have hc := HE.out 2 ⟨#[77]⟩ rfl
      rw [← hbr.cell (p := ⟨w1.heap.size, 2, none⟩) hsz] at hc
      have P1 := Lib.hid (fun w => parse_dec t v HT.out w 1048576 ⟨#[77]⟩ (.inr ⟨_, rfl, by decide, by omega⟩))
      have P2 := Lib.hid (fun w => parse_dec _ v HZ.out w 1048576 ⟨#[77]⟩ (.inr ⟨_, rfl, by decide, by omega⟩))
      have hmc : (((1024 ^ 2 : Nat) : Int)) = 1048576 := by decide
      simp only [hmc]
      clear hmc
      have hk1 := Lib.hid hk
      clear hk
      by_cases hv0 : v = 0
      · have hz0 : ((v : Int) == 0) = true := by simp; omega
        have HF := Lib.hid (show fin ((v : Int), true) 1048576 = ((v : Int) * 1048576, 0) by unfold fin; rw [if_neg (by simp), if_neg (by omega)])
        rw [HF.out] at P1 P2
        have hv1 : v < 1 := by omega
        clear hv0
        go_wp2_with fail
        refine (P1.out _).mono ?_
        rintro e w3 ⟨rfl, h3⟩
        go_wp2_with fail
        refine (P2.out _).mono ?_
        rintro e w4 ⟨rfl, h4⟩
        have hb4 := (h3.mono hbr.size).trans (h4.mono (Nat.le_trans hbr.size h3.size))
        have HB4 := Lib.hid (hbr.trans hb4)
        clear h3 h4 hb4 hc
        go_wp2_with fail
        go_roundw
        case rel => exact ⟨3, by omega, by go_num, by rw [show ((1024 ^ 3 : Nat) : Int) = 1073741824 by decide], HB4.out⟩
        case measure => simp [intOf]
      · have hz0 : ((v : Int) == 0) = false := by simp; omega
        by_cases hq : (v : Int) ≤ 1048576
        · have HF := Lib.hid (show fin ((v : Int), true) 1048576 = ((v : Int) * 1048576, 0) by unfold fin; rw [if_neg (by simp), if_neg (by simp only; omega)])
          rw [HF.out] at P1 P2
          clear hv0
          go_wp2_with fail
          refine (P1.out _).mono ?_
          rintro e w3 ⟨rfl, h3⟩
          go_wp2_with fail
          refine (P2.out _).mono ?_
          rintro e w4 ⟨rfl, h4⟩
          have hb4 := (h3.mono hbr.size).trans (h4.mono (Nat.le_trans hbr.size h3.size))
          have HB4 := Lib.hid (hbr.trans hb4)
          clear h3 h4 hb4 hc
          go_wp2_with fail
          go_roundw
          case rel => exact ⟨3, by omega, by go_num, by rw [show ((1024 ^ 3 : Nat) : Int) = 1073741824 by decide], HB4.out⟩
          case measure => simp [intOf]
        · have HF := Lib.hid (show fin ((v : Int), true) 1048576 = (0, 3) by unfold fin; rw [if_neg (by simp), if_pos (by simp only; omega)])
          rw [HF.out] at P1 P2
          have hq2 : 1048576 < v := by omega
          
          clear hv0 hq
          go_wp2_with fail
          refine (P1.out _).mono ?_
          rintro e w3 ⟨rfl, h3⟩
          go_wp2_with fail
          refine (P2.out _).mono ?_
          rintro e w4 ⟨rfl, h4⟩
          have hb4 := (h3.mono hbr.size).trans (h4.mono (Nat.le_trans hbr.size h3.size))
          have HB4 := Lib.hid (hbr.trans hb4)
          clear h3 h4 hb4 hc
          go_wp2_with fail
          go_roundw
          case rel => exact ⟨3, by omega, by go_num, by rw [show ((1024 ^ 3 : Nat) : Int) = 1073741824 by decide], HB4.out⟩
          case measure => simp [intOf]
    · have hc := HE.out 3 ⟨#[71]⟩ rfl
      rw [← hbr.cell (p := ⟨w1.heap.size, 3, none⟩) hsz] at hc
      have P1 := Lib.hid (fun w => parse_dec t v HT.out w 1073741824 ⟨#[71]⟩ (.inr ⟨_, rfl, by decide, by omega⟩))
      have P2 := Lib.hid (fun w => parse_dec _ v HZ.out w 1073741824 ⟨#[71]⟩ (.inr ⟨_, rfl, by decide, by omega⟩))
      have hmc : (((1024 ^ 3 : Nat) : Int)) = 1073741824 := by decide
      simp only [hmc]
      clear hmc
      have hk1 := Lib.hid hk
      clear hk
      by_cases hv0 : v = 0
      · have hz0 : ((v : Int) == 0) = true := by simp; omega
        have HF := Lib.hid (show fin ((v : Int), true) 1073741824 = ((v : Int) * 1073741824, 0) by unfold fin; rw [if_neg (by simp), if_neg (by omega)])
        rw [HF.out] at P1 P2
        have hv1 : v < 1 := by omega
        clear hv0
        go_wp2_with fail
        refine (P1.out _).mono ?_
        rintro e w3 ⟨rfl, h3⟩
        go_wp2_with fail
        refine (P2.out _).mono ?_
        rintro e w4 ⟨rfl, h4⟩
        have hb4 := (h3.mono hbr.size).trans (h4.mono (Nat.le_trans hbr.size h3.size))
        have HB4 := Lib.hid (hbr.trans hb4)
        clear h3 h4 hb4 hc
        go_wp2_with fail
        go_roundw
        case rel => exact ⟨4, by omega, by go_num, by rw [show ((1024 ^ 4 : Nat) : Int) = 1099511627776 by decide], HB4.out⟩
        case measure => simp [intOf]
      · have hz0 : ((v : Int) == 0) = false := by simp; omega
        by_cases hq : (v : Int) ≤ 1024
        · have HF := Lib.hid (show fin ((v : Int), true) 1073741824 = ((v : Int) * 1073741824, 0) by unfold fin; rw [if_neg (by simp), if_neg (by simp only; omega)])
          rw [HF.out] at P1 P2
          clear hv0
          go_wp2_with fail
          refine (P1.out _).mono ?_
          rintro e w3 ⟨rfl, h3⟩
          go_wp2_with fail
          refine (P2.out _).mono ?_
          rintro e w4 ⟨rfl, h4⟩
          have hb4 := (h3.mono hbr.size).trans (h4.mono (Nat.le_trans hbr.size h3.size))
          have HB4 := Lib.hid (hbr.trans hb4)
          clear h3 h4 hb4 hc
          go_wp2_with fail
          go_roundw
          case rel => exact ⟨4, by omega, by go_num, by rw [show ((1024 ^ 4 : Nat) : Int) = 1099511627776 by decide], HB4.out⟩
          case measure => simp [intOf]
        · have HF := Lib.hid (show fin ((v : Int), true) 1073741824 = (0, 3) by unfold fin; rw [if_neg (by simp), if_pos (by simp only; omega)])
          rw [HF.out] at P1 P2
          have hq2 : 1024 < v := by omega
          
          clear hv0 hq
          go_wp2_with fail
          refine (P1.out _).mono ?_
          rintro e w3 ⟨rfl, h3⟩
          go_wp2_with fail
          refine (P2.out _).mono ?_
          rintro e w4 ⟨rfl, h4⟩
          have hb4 := (h3.mono hbr.size).trans (h4.mono (Nat.le_trans hbr.size h3.size))
          have HB4 := Lib.hid (hbr.trans hb4)
          clear h3 h4 hb4 hc
          go_wp2_with fail
          go_roundw
          case rel => exact ⟨4, by omega, by go_num, by rw [show ((1024 ^ 4 : Nat) : Int) = 1099511627776 by decide], HB4.out⟩
          case measure => simp [intOf]
    · have hc := HE.out 4 ⟨#[84]⟩ rfl
      rw [← hbr.cell (p := ⟨w1.heap.size, 4, none⟩) hsz] at hc
      have P1 := Lib.hid (fun w => parse_dec t v HT.out w 1099511627776 ⟨#[84]⟩ (.inr ⟨_, rfl, by decide, by omega⟩))
      have P2 := Lib.hid (fun w => parse_dec _ v HZ.out w 1099511627776 ⟨#[84]⟩ (.inr ⟨_, rfl, by decide, by omega⟩))
      have hmc : (((1024 ^ 4 : Nat) : Int)) = 1099511627776 := by decide
      simp only [hmc]
      clear hmc
      have hk1 := Lib.hid hk
      clear hk
      by_cases hv0 : v = 0
      · have hz0 : ((v : Int) == 0) = true := by simp; omega
        have HF := Lib.hid (show fin ((v : Int), true) 1099511627776 = ((v : Int) * 1099511627776, 0) by unfold fin; rw [if_neg (by simp), if_neg (by omega)])
        rw [HF.out] at P1 P2
        have hv1 : v < 1 := by omega
        clear hv0
        go_wp2_with fail
        refine (P1.out _).mono ?_
        rintro e w3 ⟨rfl, h3⟩
        go_wp2_with fail
        refine (P2.out _).mono ?_
        rintro e w4 ⟨rfl, h4⟩
        have hb4 := (h3.mono hbr.size).trans (h4.mono (Nat.le_trans hbr.size h3.size))
        have HB4 := Lib.hid (hbr.trans hb4)
        clear h3 h4 hb4 hc
        go_wp2_with fail
        go_roundw
        case rel => exact ⟨5, by omega, by go_num, by rw [show ((1024 ^ 5 : Nat) : Int) = 1125899906842624 by decide], HB4.out⟩
        case measure => simp [intOf]
      · have hz0 : ((v : Int) == 0) = false := by simp; omega
        by_cases hq : (v : Int) ≤ 1
        · have HF := Lib.hid (show fin ((v : Int), true) 1099511627776 = ((v : Int) * 1099511627776, 0) by unfold fin; rw [if_neg (by simp), if_neg (by simp only; omega)])
          rw [HF.out] at P1 P2
          clear hv0
          go_wp2_with fail
          refine (P1.out _).mono ?_
          rintro e w3 ⟨rfl, h3⟩
          go_wp2_with fail
          refine (P2.out _).mono ?_
          rintro e w4 ⟨rfl, h4⟩
          have hb4 := (h3.mono hbr.size).trans (h4.mono (Nat.le_trans hbr.size h3.size))
          have HB4 := Lib.hid (hbr.trans hb4)
          clear h3 h4 hb4 hc
          go_wp2_with fail
          go_roundw
          case rel => exact ⟨5, by omega, by go_num, by rw [show ((1024 ^ 5 : Nat) : Int) = 1125899906842624 by decide], HB4.out⟩
          case measure => simp [intOf]
        · have HF := Lib.hid (show fin ((v : Int), true) 1099511627776 = (0, 3) by unfold fin; rw [if_neg (by simp), if_pos (by simp only; omega)])
          rw [HF.out] at P1 P2
          have hq2 : 1 < v := by omega
          have hqb : decide (v ≤ 1) = false := by simp; omega
          have hqc : decide ((v : Int) ≤ 1) = false := by simp; omega
          have HQ2 := Lib.hid hq2
          clear hq2
          clear hv0 hq
          go_wp2_with fail
          refine (P1.out _).mono ?_
          rintro e w3 ⟨rfl, h3⟩
          go_wp2_with fail
          refine (P2.out _).mono ?_
          rintro e w4 ⟨rfl, h4⟩
          have hb4 := (h3.mono hbr.size).trans (h4.mono (Nat.le_trans hbr.size h3.size))
          have HB4 := Lib.hid (hbr.trans hb4)
          clear h3 h4 hb4 hc
          go_wp2_with fail
          go_roundw
          case rel => exact ⟨5, by omega, by go_num, by rw [show ((1024 ^ 5 : Nat) : Int) = 1125899906842624 by decide], HB4.out⟩
          case measure => simp [intOf]
    · have hmc : (((1024 ^ 5 : Nat) : Int)) = 1125899906842624 := by decide
      simp only [hmc]
      clear hmc hk
      go_wp2_with fail
      refine (sane_any _).mono ?_
      rintro e w5 ⟨rfl, h5⟩
      go_wp2
      go_ret
      exact ⟨rfl, (HBW.out.trans (hbr.mono HBW.out.size)).trans (h5.mono (Nat.le_trans HBW.out.size hbr.size))⟩
end Go.Proofs.Ytjfknijaohemgaa
