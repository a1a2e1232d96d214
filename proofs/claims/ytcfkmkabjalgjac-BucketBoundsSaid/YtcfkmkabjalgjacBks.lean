/- The sanity check of layer 30. -/
import Derived.Test.YtcfkmkabjalgjacBkp
import Derived.Test.YtcfkmkabjalgjacBkw
import Derived.Test.YtcfkmkabjalgjacBkat
namespace Go.Proofs.Ytcfkmkabjalgjac
open Go.RowKit
set_option linter.unusedVariables false
set_option linter.unusedSimpArgs false

theorem e_new : bnew 3 2 10 0 = (⟨3, 2, 10, 20, 0⟩, 0) := by kernel_rfl
theorem e_take : btake ⟨3, 2, 10, 20, 0⟩ 0 10 = (⟨3, 2, 10, 0, 0⟩, 0) := by kernel_rfl
theorem e_a1 : badv ⟨3, 2, 10, 0, 0⟩ 1 = (⟨3, 2, 10, 3, 1⟩, 0) := by kernel_rfl
theorem e_a2 : badv ⟨3, 2, 10, 0, 0⟩ 2 = (⟨3, 2, 10, 6, 2⟩, 0) := by kernel_rfl
theorem e_a3 : badv ⟨3, 2, 10, 0, 0⟩ 3 = (⟨3, 2, 10, 9, 3⟩, 0) := by kernel_rfl
theorem e_w5 : bwhen ⟨3, 2, 10, 0, 0⟩ 5 = (4, 0) := by kernel_rfl
theorem e_w11 : bwhen ⟨3, 2, 10, 0, 0⟩ 11 = (0, 21) := by kernel_rfl
theorem e_tb : btok ⟨3, 2, 10, 20, 0⟩ = 10 := by kernel_rfl
theorem e_tx : btok ⟨3, 2, 10, 3, 1⟩ = 1 := by kernel_rfl
theorem e_ty : btok ⟨3, 2, 10, 6, 2⟩ = 3 := by kernel_rfl
theorem e_tz : btok ⟨3, 2, 10, 9, 3⟩ = 4 := by kernel_rfl

set_option maxHeartbeats 4000000 in
theorem bsane (w : World) : Calls Try.prog 9 #[] w fun e w' => e = .returned (.bool true) ∧ Below w.heap.size w w' := by
  go_enter Try.func9, Try.ntmps9
  have C := Lib.hid (fun w => new_any 3 2 10 0 w)
  rw [e_new] at C
  simp only [Bk.v] at C
  go_wp2_with fail
  refine (C.out _).mono ?_
  clear C
  rintro e w1 ⟨rfl, hb1⟩
  have HB := Lib.hid hb1
  clear hb1
  have C := Lib.hid (fun w => take_any ⟨3, 2, 10, 20, 0⟩ 0 10 w)
  rw [e_take] at C
  simp only [Bk.v] at C
  go_wp2_with fail
  refine (C.out _).mono ?_
  clear C
  rintro e w2 ⟨rfl, hb2⟩
  have B1 := Lib.hid ((BkAt.new w1 ⟨3, 2, 10, 20, 0⟩ 24).below hb2 (BkAt.new w1 ⟨3, 2, 10, 20, 0⟩ 24).lt)
  have HBn := Lib.hid (((HB.out.alloc HB.out.size _)).trans (hb2.mono (HB.out.alloc HB.out.size _).size))
  clear HB hb2
  have HB := HBn
  clear HBn
  have B1_0 := B1.out.c0
  have B1_1 := B1.out.c1
  have B1_2 := B1.out.c2
  have B1_3 := B1.out.c3
  have B1_4 := B1.out.c4
  have B1_l := B1.out.lt
  have C := Lib.hid (fun w => adv_any ⟨3, 2, 10, 0, 0⟩ 1 w)
  rw [e_a1] at C
  simp only [Bk.v] at C
  go_wp2_with fail
  refine (C.out _).mono ?_
  clear C
  rintro e w3 ⟨rfl, hb3⟩
  have B1n := Lib.hid ((B1.out.alloc _).below hb3 (B1.out.alloc _).lt)
  clear B1
  have B1 := B1n
  clear B1n
  have B2 := Lib.hid ((BkAt.new w2 ⟨3, 2, 10, 0, 0⟩ 24).below hb3 (BkAt.new w2 ⟨3, 2, 10, 0, 0⟩ 24).lt)
  have HBn := Lib.hid (((HB.out.alloc HB.out.size _)).trans (hb3.mono (HB.out.alloc HB.out.size _).size))
  clear HB hb3
  have HB := HBn
  clear HBn
  try clear B1_0 B1_1 B1_2 B1_3 B1_4 B1_l
  have B1_0 := B1.out.c0
  have B1_1 := B1.out.c1
  have B1_2 := B1.out.c2
  have B1_3 := B1.out.c3
  have B1_4 := B1.out.c4
  have B1_l := B1.out.lt
  have B2_0 := B2.out.c0
  have B2_1 := B2.out.c1
  have B2_2 := B2.out.c2
  have B2_3 := B2.out.c3
  have B2_4 := B2.out.c4
  have B2_l := B2.out.lt
  have C := Lib.hid (fun w => adv_any ⟨3, 2, 10, 0, 0⟩ 2 w)
  rw [e_a2] at C
  simp only [Bk.v] at C
  go_wp2_with fail
  refine (C.out _).mono ?_
  clear C
  rintro e w4 ⟨rfl, hb4⟩
  have B1n := Lib.hid ((B1.out.alloc _).below hb4 (B1.out.alloc _).lt)
  clear B1
  have B1 := B1n
  clear B1n
  have B2n := Lib.hid ((B2.out.alloc _).below hb4 (B2.out.alloc _).lt)
  clear B2
  have B2 := B2n
  clear B2n
  have B3 := Lib.hid ((BkAt.new w3 ⟨3, 2, 10, 3, 1⟩ 24).below hb4 (BkAt.new w3 ⟨3, 2, 10, 3, 1⟩ 24).lt)
  have HBn := Lib.hid (((HB.out.alloc HB.out.size _)).trans (hb4.mono (HB.out.alloc HB.out.size _).size))
  clear HB hb4
  have HB := HBn
  clear HBn
  try clear B1_0 B1_1 B1_2 B1_3 B1_4 B1_l
  have B1_0 := B1.out.c0
  have B1_1 := B1.out.c1
  have B1_2 := B1.out.c2
  have B1_3 := B1.out.c3
  have B1_4 := B1.out.c4
  have B1_l := B1.out.lt
  try clear B2_0 B2_1 B2_2 B2_3 B2_4 B2_l
  have B2_0 := B2.out.c0
  have B2_1 := B2.out.c1
  have B2_2 := B2.out.c2
  have B2_3 := B2.out.c3
  have B2_4 := B2.out.c4
  have B2_l := B2.out.lt
  have B3_0 := B3.out.c0
  have B3_1 := B3.out.c1
  have B3_2 := B3.out.c2
  have B3_3 := B3.out.c3
  have B3_4 := B3.out.c4
  have B3_l := B3.out.lt
  have C := Lib.hid (fun w => adv_any ⟨3, 2, 10, 0, 0⟩ 3 w)
  rw [e_a3] at C
  simp only [Bk.v] at C
  go_wp2_with fail
  refine (C.out _).mono ?_
  clear C
  rintro e w5 ⟨rfl, hb5⟩
  have B1n := Lib.hid ((B1.out.alloc _).below hb5 (B1.out.alloc _).lt)
  clear B1
  have B1 := B1n
  clear B1n
  have B2n := Lib.hid ((B2.out.alloc _).below hb5 (B2.out.alloc _).lt)
  clear B2
  have B2 := B2n
  clear B2n
  have B3n := Lib.hid ((B3.out.alloc _).below hb5 (B3.out.alloc _).lt)
  clear B3
  have B3 := B3n
  clear B3n
  have B4 := Lib.hid ((BkAt.new w4 ⟨3, 2, 10, 6, 2⟩ 24).below hb5 (BkAt.new w4 ⟨3, 2, 10, 6, 2⟩ 24).lt)
  have HBn := Lib.hid (((HB.out.alloc HB.out.size _)).trans (hb5.mono (HB.out.alloc HB.out.size _).size))
  clear HB hb5
  have HB := HBn
  clear HBn
  try clear B1_0 B1_1 B1_2 B1_3 B1_4 B1_l
  have B1_0 := B1.out.c0
  have B1_1 := B1.out.c1
  have B1_2 := B1.out.c2
  have B1_3 := B1.out.c3
  have B1_4 := B1.out.c4
  have B1_l := B1.out.lt
  try clear B2_0 B2_1 B2_2 B2_3 B2_4 B2_l
  have B2_0 := B2.out.c0
  have B2_1 := B2.out.c1
  have B2_2 := B2.out.c2
  have B2_3 := B2.out.c3
  have B2_4 := B2.out.c4
  have B2_l := B2.out.lt
  try clear B3_0 B3_1 B3_2 B3_3 B3_4 B3_l
  have B3_0 := B3.out.c0
  have B3_1 := B3.out.c1
  have B3_2 := B3.out.c2
  have B3_3 := B3.out.c3
  have B3_4 := B3.out.c4
  have B3_l := B3.out.lt
  have B4_0 := B4.out.c0
  have B4_1 := B4.out.c1
  have B4_2 := B4.out.c2
  have B4_3 := B4.out.c3
  have B4_4 := B4.out.c4
  have B4_l := B4.out.lt
  have C := Lib.hid (fun w => when_any ⟨3, 2, 10, 0, 0⟩ 5 w)
  rw [e_w5] at C
  simp only [Bk.v] at C
  go_wp2_with fail
  refine (C.out _).mono ?_
  clear C
  rintro e w6 ⟨rfl, hb6⟩
  have B1n := Lib.hid ((B1.out.alloc _).below hb6 (B1.out.alloc _).lt)
  clear B1
  have B1 := B1n
  clear B1n
  have B2n := Lib.hid ((B2.out.alloc _).below hb6 (B2.out.alloc _).lt)
  clear B2
  have B2 := B2n
  clear B2n
  have B3n := Lib.hid ((B3.out.alloc _).below hb6 (B3.out.alloc _).lt)
  clear B3
  have B3 := B3n
  clear B3n
  have B4n := Lib.hid ((B4.out.alloc _).below hb6 (B4.out.alloc _).lt)
  clear B4
  have B4 := B4n
  clear B4n
  have B5 := Lib.hid ((BkAt.new w5 ⟨3, 2, 10, 9, 3⟩ 24).below hb6 (BkAt.new w5 ⟨3, 2, 10, 9, 3⟩ 24).lt)
  have HBn := Lib.hid (((HB.out.alloc HB.out.size _)).trans (hb6.mono (HB.out.alloc HB.out.size _).size))
  clear HB hb6
  have HB := HBn
  clear HBn
  try clear B1_0 B1_1 B1_2 B1_3 B1_4 B1_l
  have B1_0 := B1.out.c0
  have B1_1 := B1.out.c1
  have B1_2 := B1.out.c2
  have B1_3 := B1.out.c3
  have B1_4 := B1.out.c4
  have B1_l := B1.out.lt
  try clear B2_0 B2_1 B2_2 B2_3 B2_4 B2_l
  have B2_0 := B2.out.c0
  have B2_1 := B2.out.c1
  have B2_2 := B2.out.c2
  have B2_3 := B2.out.c3
  have B2_4 := B2.out.c4
  have B2_l := B2.out.lt
  try clear B3_0 B3_1 B3_2 B3_3 B3_4 B3_l
  have B3_0 := B3.out.c0
  have B3_1 := B3.out.c1
  have B3_2 := B3.out.c2
  have B3_3 := B3.out.c3
  have B3_4 := B3.out.c4
  have B3_l := B3.out.lt
  try clear B4_0 B4_1 B4_2 B4_3 B4_4 B4_l
  have B4_0 := B4.out.c0
  have B4_1 := B4.out.c1
  have B4_2 := B4.out.c2
  have B4_3 := B4.out.c3
  have B4_4 := B4.out.c4
  have B4_l := B4.out.lt
  have B5_0 := B5.out.c0
  have B5_1 := B5.out.c1
  have B5_2 := B5.out.c2
  have B5_3 := B5.out.c3
  have B5_4 := B5.out.c4
  have B5_l := B5.out.lt
  have C := Lib.hid (fun w => when_any ⟨3, 2, 10, 0, 0⟩ 11 w)
  rw [e_w11] at C
  simp only [Bk.v] at C
  go_wp2_with fail
  refine (C.out _).mono ?_
  clear C
  rintro e w7 ⟨rfl, hb7⟩
  have B1n := Lib.hid (B1.out.below hb7 B1.out.lt)
  clear B1
  have B1 := B1n
  clear B1n
  have B2n := Lib.hid (B2.out.below hb7 B2.out.lt)
  clear B2
  have B2 := B2n
  clear B2n
  have B3n := Lib.hid (B3.out.below hb7 B3.out.lt)
  clear B3
  have B3 := B3n
  clear B3n
  have B4n := Lib.hid (B4.out.below hb7 B4.out.lt)
  clear B4
  have B4 := B4n
  clear B4n
  have B5n := Lib.hid (B5.out.below hb7 B5.out.lt)
  clear B5
  have B5 := B5n
  clear B5n
  have HBn := Lib.hid (HB.out.trans (hb7.mono HB.out.size))
  clear HB hb7
  have HB := HBn
  clear HBn
  try clear B1_0 B1_1 B1_2 B1_3 B1_4 B1_l
  have B1_0 := B1.out.c0
  have B1_1 := B1.out.c1
  have B1_2 := B1.out.c2
  have B1_3 := B1.out.c3
  have B1_4 := B1.out.c4
  have B1_l := B1.out.lt
  try clear B2_0 B2_1 B2_2 B2_3 B2_4 B2_l
  have B2_0 := B2.out.c0
  have B2_1 := B2.out.c1
  have B2_2 := B2.out.c2
  have B2_3 := B2.out.c3
  have B2_4 := B2.out.c4
  have B2_l := B2.out.lt
  try clear B3_0 B3_1 B3_2 B3_3 B3_4 B3_l
  have B3_0 := B3.out.c0
  have B3_1 := B3.out.c1
  have B3_2 := B3.out.c2
  have B3_3 := B3.out.c3
  have B3_4 := B3.out.c4
  have B3_l := B3.out.lt
  try clear B4_0 B4_1 B4_2 B4_3 B4_4 B4_l
  have B4_0 := B4.out.c0
  have B4_1 := B4.out.c1
  have B4_2 := B4.out.c2
  have B4_3 := B4.out.c3
  have B4_4 := B4.out.c4
  have B4_l := B4.out.lt
  try clear B5_0 B5_1 B5_2 B5_3 B5_4 B5_l
  have B5_0 := B5.out.c0
  have B5_1 := B5.out.c1
  have B5_2 := B5.out.c2
  have B5_3 := B5.out.c3
  have B5_4 := B5.out.c4
  have B5_l := B5.out.lt
  have C := Lib.hid (fun w => tok_any ⟨3, 2, 10, 20, 0⟩ w)
  rw [e_tb] at C
  simp only [Bk.v] at C
  go_wp2_with fail
  refine (C.out _).mono ?_
  clear C
  rintro e w8 ⟨rfl, hb8⟩
  have B1n := Lib.hid (B1.out.below hb8 B1.out.lt)
  clear B1
  have B1 := B1n
  clear B1n
  have B2n := Lib.hid (B2.out.below hb8 B2.out.lt)
  clear B2
  have B2 := B2n
  clear B2n
  have B3n := Lib.hid (B3.out.below hb8 B3.out.lt)
  clear B3
  have B3 := B3n
  clear B3n
  have B4n := Lib.hid (B4.out.below hb8 B4.out.lt)
  clear B4
  have B4 := B4n
  clear B4n
  have B5n := Lib.hid (B5.out.below hb8 B5.out.lt)
  clear B5
  have B5 := B5n
  clear B5n
  have HBn := Lib.hid (HB.out.trans (hb8.mono HB.out.size))
  clear HB hb8
  have HB := HBn
  clear HBn
  try clear B1_0 B1_1 B1_2 B1_3 B1_4 B1_l
  have B1_0 := B1.out.c0
  have B1_1 := B1.out.c1
  have B1_2 := B1.out.c2
  have B1_3 := B1.out.c3
  have B1_4 := B1.out.c4
  have B1_l := B1.out.lt
  try clear B2_0 B2_1 B2_2 B2_3 B2_4 B2_l
  have B2_0 := B2.out.c0
  have B2_1 := B2.out.c1
  have B2_2 := B2.out.c2
  have B2_3 := B2.out.c3
  have B2_4 := B2.out.c4
  have B2_l := B2.out.lt
  try clear B3_0 B3_1 B3_2 B3_3 B3_4 B3_l
  have B3_0 := B3.out.c0
  have B3_1 := B3.out.c1
  have B3_2 := B3.out.c2
  have B3_3 := B3.out.c3
  have B3_4 := B3.out.c4
  have B3_l := B3.out.lt
  try clear B4_0 B4_1 B4_2 B4_3 B4_4 B4_l
  have B4_0 := B4.out.c0
  have B4_1 := B4.out.c1
  have B4_2 := B4.out.c2
  have B4_3 := B4.out.c3
  have B4_4 := B4.out.c4
  have B4_l := B4.out.lt
  try clear B5_0 B5_1 B5_2 B5_3 B5_4 B5_l
  have B5_0 := B5.out.c0
  have B5_1 := B5.out.c1
  have B5_2 := B5.out.c2
  have B5_3 := B5.out.c3
  have B5_4 := B5.out.c4
  have B5_l := B5.out.lt
  have C := Lib.hid (fun w => tok_any ⟨3, 2, 10, 3, 1⟩ w)
  rw [e_tx] at C
  simp only [Bk.v] at C
  go_wp2_with fail
  refine (C.out _).mono ?_
  clear C
  rintro e w9 ⟨rfl, hb9⟩
  have B1n := Lib.hid (B1.out.below hb9 B1.out.lt)
  clear B1
  have B1 := B1n
  clear B1n
  have B2n := Lib.hid (B2.out.below hb9 B2.out.lt)
  clear B2
  have B2 := B2n
  clear B2n
  have B3n := Lib.hid (B3.out.below hb9 B3.out.lt)
  clear B3
  have B3 := B3n
  clear B3n
  have B4n := Lib.hid (B4.out.below hb9 B4.out.lt)
  clear B4
  have B4 := B4n
  clear B4n
  have B5n := Lib.hid (B5.out.below hb9 B5.out.lt)
  clear B5
  have B5 := B5n
  clear B5n
  have HBn := Lib.hid (HB.out.trans (hb9.mono HB.out.size))
  clear HB hb9
  have HB := HBn
  clear HBn
  try clear B1_0 B1_1 B1_2 B1_3 B1_4 B1_l
  have B1_0 := B1.out.c0
  have B1_1 := B1.out.c1
  have B1_2 := B1.out.c2
  have B1_3 := B1.out.c3
  have B1_4 := B1.out.c4
  have B1_l := B1.out.lt
  try clear B2_0 B2_1 B2_2 B2_3 B2_4 B2_l
  have B2_0 := B2.out.c0
  have B2_1 := B2.out.c1
  have B2_2 := B2.out.c2
  have B2_3 := B2.out.c3
  have B2_4 := B2.out.c4
  have B2_l := B2.out.lt
  try clear B3_0 B3_1 B3_2 B3_3 B3_4 B3_l
  have B3_0 := B3.out.c0
  have B3_1 := B3.out.c1
  have B3_2 := B3.out.c2
  have B3_3 := B3.out.c3
  have B3_4 := B3.out.c4
  have B3_l := B3.out.lt
  try clear B4_0 B4_1 B4_2 B4_3 B4_4 B4_l
  have B4_0 := B4.out.c0
  have B4_1 := B4.out.c1
  have B4_2 := B4.out.c2
  have B4_3 := B4.out.c3
  have B4_4 := B4.out.c4
  have B4_l := B4.out.lt
  try clear B5_0 B5_1 B5_2 B5_3 B5_4 B5_l
  have B5_0 := B5.out.c0
  have B5_1 := B5.out.c1
  have B5_2 := B5.out.c2
  have B5_3 := B5.out.c3
  have B5_4 := B5.out.c4
  have B5_l := B5.out.lt
  have C := Lib.hid (fun w => tok_any ⟨3, 2, 10, 6, 2⟩ w)
  rw [e_ty] at C
  simp only [Bk.v] at C
  go_wp2_with fail
  refine (C.out _).mono ?_
  clear C
  rintro e w10 ⟨rfl, hb10⟩
  have B1n := Lib.hid (B1.out.below hb10 B1.out.lt)
  clear B1
  have B1 := B1n
  clear B1n
  have B2n := Lib.hid (B2.out.below hb10 B2.out.lt)
  clear B2
  have B2 := B2n
  clear B2n
  have B3n := Lib.hid (B3.out.below hb10 B3.out.lt)
  clear B3
  have B3 := B3n
  clear B3n
  have B4n := Lib.hid (B4.out.below hb10 B4.out.lt)
  clear B4
  have B4 := B4n
  clear B4n
  have B5n := Lib.hid (B5.out.below hb10 B5.out.lt)
  clear B5
  have B5 := B5n
  clear B5n
  have HBn := Lib.hid (HB.out.trans (hb10.mono HB.out.size))
  clear HB hb10
  have HB := HBn
  clear HBn
  try clear B1_0 B1_1 B1_2 B1_3 B1_4 B1_l
  have B1_0 := B1.out.c0
  have B1_1 := B1.out.c1
  have B1_2 := B1.out.c2
  have B1_3 := B1.out.c3
  have B1_4 := B1.out.c4
  have B1_l := B1.out.lt
  try clear B2_0 B2_1 B2_2 B2_3 B2_4 B2_l
  have B2_0 := B2.out.c0
  have B2_1 := B2.out.c1
  have B2_2 := B2.out.c2
  have B2_3 := B2.out.c3
  have B2_4 := B2.out.c4
  have B2_l := B2.out.lt
  try clear B3_0 B3_1 B3_2 B3_3 B3_4 B3_l
  have B3_0 := B3.out.c0
  have B3_1 := B3.out.c1
  have B3_2 := B3.out.c2
  have B3_3 := B3.out.c3
  have B3_4 := B3.out.c4
  have B3_l := B3.out.lt
  try clear B4_0 B4_1 B4_2 B4_3 B4_4 B4_l
  have B4_0 := B4.out.c0
  have B4_1 := B4.out.c1
  have B4_2 := B4.out.c2
  have B4_3 := B4.out.c3
  have B4_4 := B4.out.c4
  have B4_l := B4.out.lt
  try clear B5_0 B5_1 B5_2 B5_3 B5_4 B5_l
  have B5_0 := B5.out.c0
  have B5_1 := B5.out.c1
  have B5_2 := B5.out.c2
  have B5_3 := B5.out.c3
  have B5_4 := B5.out.c4
  have B5_l := B5.out.lt
  have C := Lib.hid (fun w => tok_any ⟨3, 2, 10, 9, 3⟩ w)
  rw [e_tz] at C
  simp only [Bk.v] at C
  go_wp2_with fail
  refine (C.out _).mono ?_
  clear C
  rintro e w11 ⟨rfl, hb11⟩
  have B1n := Lib.hid (B1.out.below hb11 B1.out.lt)
  clear B1
  have B1 := B1n
  clear B1n
  have B2n := Lib.hid (B2.out.below hb11 B2.out.lt)
  clear B2
  have B2 := B2n
  clear B2n
  have B3n := Lib.hid (B3.out.below hb11 B3.out.lt)
  clear B3
  have B3 := B3n
  clear B3n
  have B4n := Lib.hid (B4.out.below hb11 B4.out.lt)
  clear B4
  have B4 := B4n
  clear B4n
  have B5n := Lib.hid (B5.out.below hb11 B5.out.lt)
  clear B5
  have B5 := B5n
  clear B5n
  have HBn := Lib.hid (HB.out.trans (hb11.mono HB.out.size))
  clear HB hb11
  have HB := HBn
  clear HBn
  try clear B1_0 B1_1 B1_2 B1_3 B1_4 B1_l
  have B1_0 := B1.out.c0
  have B1_1 := B1.out.c1
  have B1_2 := B1.out.c2
  have B1_3 := B1.out.c3
  have B1_4 := B1.out.c4
  have B1_l := B1.out.lt
  try clear B2_0 B2_1 B2_2 B2_3 B2_4 B2_l
  have B2_0 := B2.out.c0
  have B2_1 := B2.out.c1
  have B2_2 := B2.out.c2
  have B2_3 := B2.out.c3
  have B2_4 := B2.out.c4
  have B2_l := B2.out.lt
  try clear B3_0 B3_1 B3_2 B3_3 B3_4 B3_l
  have B3_0 := B3.out.c0
  have B3_1 := B3.out.c1
  have B3_2 := B3.out.c2
  have B3_3 := B3.out.c3
  have B3_4 := B3.out.c4
  have B3_l := B3.out.lt
  try clear B4_0 B4_1 B4_2 B4_3 B4_4 B4_l
  have B4_0 := B4.out.c0
  have B4_1 := B4.out.c1
  have B4_2 := B4.out.c2
  have B4_3 := B4.out.c3
  have B4_4 := B4.out.c4
  have B4_l := B4.out.lt
  try clear B5_0 B5_1 B5_2 B5_3 B5_4 B5_l
  have B5_0 := B5.out.c0
  have B5_1 := B5.out.c1
  have B5_2 := B5.out.c2
  have B5_3 := B5.out.c3
  have B5_4 := B5.out.c4
  have B5_l := B5.out.lt
  go_wp2
  go_ret
  exact ⟨rfl, HB.out⟩
end Go.Proofs.Ytcfkmkabjalgjac
