/- NumberSums: for all numbers and dice, Clip and Add are limited, commutative, associative and monotone. -/
import Derived.Test.YtjfknijaohemgaaNumS
import Derived.Test.YtjfknijaohemgaaNumAddx
import Derived.Test.YtjfknijaohemgaaDice
namespace Go.Proofs.Ytjfknijaohemgaa
open Go.RowKit
set_option linter.unusedVariables false

theorem addc_comm (a b : Int) : addc a b = addc b a := by unfold addc clip; repeat' (first | omega | split)
theorem addc_ge (a b : Int) : clip a ≤ addc a b := by unfold addc clip; repeat' (first | omega | split)
theorem clip_addc (a b : Int) : clip (addc a b) = addc a b := by unfold addc clip; repeat' (first | omega | split)
theorem clip_mono (a b : Int) (h : a ≤ b) : clip a ≤ clip b := by unfold clip; repeat' (first | omega | split)
theorem addc_clip (a b : Int) : addc a b = (if clip a = 4611686018427387904 ∨ clip b = 4611686018427387904 then 4611686018427387904 else if 1099511627776 < clip a + clip b then 1099511627776 else clip a + clip b) := rfl
theorem addc_assoc (a b c : Int) : addc (addc a b) c = addc a (addc b c) := by
  have ha := clip_bd a
  have hb := clip_bd b
  have hc := clip_bd c
  rw [addc_clip (addc a b) c, addc_clip a (addc b c), clip_addc, clip_addc, addc_clip a b, addc_clip b c]
  generalize clip a = x at *
  generalize clip b = y at *
  generalize clip c = z at *
  repeat' (first | omega | split)
theorem addc_mono (a b c : Int) (h : b ≤ c) : addc a b ≤ addc a c := by
  have ha := clip_bd a
  have hb := clip_bd b
  have hc := clip_bd c
  have hm := clip_mono b c h
  rw [addc_clip a b, addc_clip a c]
  generalize clip a = x at *
  generalize clip b = y at *
  generalize clip c = z at *
  repeat' (first | omega | split)

set_option maxHeartbeats 1000000 in
set_option maxRecDepth 100000 in
theorem sums_walk (a0 a1 a2 : Int) (a3 : Option Addr) (len3 cap3 : Nat) (z3 : List Int) (w : World) (w3 : IsRow .i64 w a3 len3 cap3 z3) (hlight : len3 ≤ 600) :
    Calls Try.prog 4 #[.int .i64 a0, .int .i64 a1, .int .i64 a2, .slice a3 len3 cap3] w fun e w' => e = .returned (.bool true) ∧ Below w.heap.size w w' := by
  have hd : decide (len3 ≤ 600) = true := by simpa using hlight
  have HR := Lib.hid (roll_any a3 len3 cap3 z3 w w3)
  have HL := Lib.hid (light_any a3 len3 cap3 w)
  rw [hd] at HL
  clear w3 hd
  go_enter Try.func4, Try.ntmps4
  go_wp2_with fail
  refine HL.out.mono ?_
  rintro e w' ⟨rfl, rfl⟩
  go_wp2_with fail
  refine HR.out.mono ?_
  rintro e w1 ⟨rfl, hd1, hb1, hs1⟩
  have HD1 := Lib.hid hd1
  have HS1 := Lib.hid hs1
  clear hd1 hs1
  go_wp2_with fail
  refine (next_any _ 5 _ HD1.out (by omega)).mono ?_
  rintro e w2 ⟨k1, hk10, hk11, rfl, hd2, hr2⟩
  have hk12 : k1 < 5 := by omega
  have HD2 := Lib.hid hd2
  clear hk11 hd2
  go_wp2_with fail
  refine (next_any _ 3 _ HD2.out (by omega)).mono ?_
  rintro e w3 ⟨k2, hk20, hk21, rfl, hd3, hr3⟩
  have hk22 : k2 < 3 := by omega
  have HD3 := Lib.hid hd3
  clear hk21 hd3
  go_wp2_with fail
  refine (next_any _ 100 _ HD3.out (by omega)).mono ?_
  rintro e w4 ⟨k3, hk30, hk31, rfl, hd4, hr4⟩
  have hb4 : Below w.heap.size w w4 := hb1.trans ((hr2.below (Nat.le_refl _)).trans ((hr3.below (Nat.le_refl _)).trans (hr4.below (Nat.le_refl _))))
  clear hb1 hr2 hr3 hr4 hd4 HD1 HD2 HD3 HS1 hk31 HR HL
  go_wp2_with fail
  generalize hW : w4.alloc (Obj.cells #[Value.int IntKind.i64 a0, Value.int IntKind.i64 a1, Value.int IntKind.i64 a2, Value.int IntKind.i64 0, Value.int IntKind.i64 (-1), Value.int IntKind.i64 1099511627776, Value.int IntKind.i64 (1099511627776 - k1), Value.int IntKind.i64 4611686018427387904, Value.int IntKind.i64 (4611686018427387904 + k2), Value.int IntKind.i64 k3] 3) = W
  have hb : Below w.heap.size w W := by rw [← hW]; exact hb4.alloc hb4.size _
  obtain ⟨E, hE⟩ : ∃ E : Nat → Int, ∀ k, k < 10 → W.cell? ⟨w4.heap.size, k, none⟩ = some (.int .i64 (E k)) := by
    refine ⟨fun k => [a0, a1, a2, 0, -1, 1099511627776, 1099511627776 - k1, 4611686018427387904, 4611686018427387904 + k2, k3].getD k 0, fun k hk => ?_⟩
    rw [← hW]
    obtain rfl | rfl | rfl | rfl | rfl | rfl | rfl | rfl | rfl | rfl : k = 0 ∨ k = 1 ∨ k = 2 ∨ k = 3 ∨ k = 4 ∨ k = 5 ∨ k = 6 ∨ k = 7 ∨ k = 8 ∨ k = 9 := by omega
    all_goals simp [go_sem]
  have HE := Lib.hid hE
  have HB := Lib.hid hb
  clear hW hE hb hb4 hk10 hk12 hk20 hk22 hk30
  go_loop [38] (fun i => ∃ k : Nat, k ≤ 10 ∧ i = .int .i64 k) (fun i => 10 - (intOf i).toNat)
  case atStart => exact ⟨0, by omega, rfl⟩
  case round =>
    obtain ⟨k, hk, rfl⟩ := hrel
    by_cases hlt : k < 10
    · have hcx := HE.out k hlt
      obtain ⟨x, hx⟩ : ∃ x, E k = x := ⟨_, rfl⟩
      rw [hx] at hcx
      have C1 := Lib.hid (clip_any x W)
      have C2 := Lib.hid (rclip_any x W)
      have C3 := Lib.hid (addc_ge x)
      clear hx
      obtain ⟨c, hc⟩ : ∃ c, clip x = c := ⟨_, rfl⟩
      rw [hc] at C1 C2 C3
      clear hc
      go_wp2_with fail
      refine C1.out.mono ?_
      rintro e w' ⟨rfl, rfl⟩
      go_wp2_with fail
      refine C2.out.mono ?_
      rintro e w' ⟨rfl, rfl⟩
      go_wp2_with fail
      go_loop [49] (fun i => ∃ k : Nat, k ≤ 10 ∧ i = .int .i64 k) (fun i => 10 - (intOf i).toNat)
      case atStart => exact ⟨0, by omega, rfl⟩
      case round =>
        obtain ⟨k', hk', rfl⟩ := hrel
        by_cases hlt' : k' < 10
        · have hcy := HE.out k' hlt'
          obtain ⟨y, hy⟩ : ∃ y, E k' = y := ⟨_, rfl⟩
          rw [hy] at hcy
          clear hy
          have A1 := Lib.hid (add_any x y W)
          have A2 := Lib.hid (radd_any x y W)
          have A3 := Lib.hid (add_any y x W)
          rw [addc_comm y x] at A3
          have hcs := C3.out y
          have HS := Lib.hid (addc_assoc x y)
          have HM := Lib.hid (addc_mono x y)
          obtain ⟨s, hs⟩ : ∃ s, addc x y = s := ⟨_, rfl⟩
          rw [hs] at A1 A2 A3 hcs HS HM
          clear hs
          go_wp2_with fail
          refine A1.out.mono ?_
          rintro e w' ⟨rfl, rfl⟩
          go_wp2_with fail
          refine A2.out.mono ?_
          rintro e w' ⟨rfl, rfl⟩
          go_wp2_with fail
          refine A3.out.mono ?_
          rintro e w' ⟨rfl, rfl⟩
          go_wp2_with fail
          refine C1.out.mono ?_
          rintro e w' ⟨rfl, rfl⟩
          go_wp2_with fail
          go_loop [76] (fun i => ∃ k : Nat, k ≤ 10 ∧ i = .int .i64 k) (fun i => 10 - (intOf i).toNat)
          case atStart => exact ⟨0, by omega, rfl⟩
          case round =>
            obtain ⟨k2, hk2, rfl⟩ := hrel
            by_cases hlt2 : k2 < 10
            · have hcz := HE.out k2 hlt2
              obtain ⟨z, hz⟩ : ∃ z, E k2 = z := ⟨_, rfl⟩
              rw [hz] at hcz
              clear hz
              have B1 := Lib.hid (add_any s z W)
              have B2 := Lib.hid (add_any y z W)
              have B3 := Lib.hid (add_any x (addc y z) W)
              have B4 := Lib.hid (add_any x z W)
              have hm := HM.out z
              rw [← HS.out z] at B3
              obtain ⟨t, ht⟩ : ∃ t, addc s z = t := ⟨_, rfl⟩
              rw [ht] at B1 B3
              clear ht
              obtain ⟨u, hu⟩ : ∃ u, addc y z = u := ⟨_, rfl⟩
              rw [hu] at B2 B3
              clear hu
              obtain ⟨v, hv⟩ : ∃ v, addc x z = v := ⟨_, rfl⟩
              rw [hv] at B4 hm
              clear hv
              by_cases hyz : y ≤ z
              · have hsv := hm hyz
                clear hm
                go_wp2_with fail
                refine B1.out.mono ?_
                rintro e w' ⟨rfl, rfl⟩
                go_wp2_with fail
                refine B2.out.mono ?_
                rintro e w' ⟨rfl, rfl⟩
                go_wp2_with fail
                refine B3.out.mono ?_
                rintro e w' ⟨rfl, rfl⟩
                go_wp2_with fail
                refine B4.out.mono ?_
                rintro e w' ⟨rfl, rfl⟩
                go_wp2_with fail
                go_round
                case rel => exact ⟨k2 + 1, by omega, by go_num⟩
                case measure => simp [intOf]; omega
              · clear hm
                go_wp2_with fail
                refine B1.out.mono ?_
                rintro e w' ⟨rfl, rfl⟩
                go_wp2_with fail
                refine B2.out.mono ?_
                rintro e w' ⟨rfl, rfl⟩
                go_wp2_with fail
                refine B3.out.mono ?_
                rintro e w' ⟨rfl, rfl⟩
                go_wp2_with fail
                go_round
                case rel => exact ⟨k2 + 1, by omega, by go_num⟩
                case measure => simp [intOf]; omega
            · go_wp2_with fail
              go_round
              case rel => exact ⟨k' + 1, by omega, by go_num⟩
              case measure => simp [intOf]; omega
        · go_wp2_with fail
          go_round
          case rel => exact ⟨k + 1, by omega, by go_num⟩
          case measure => simp [intOf]; omega
    · go_wp2_with fail
      refine (sane_any _).mono ?_
      rintro e w5 ⟨rfl, h5⟩
      go_wp2
      go_ret
      exact ⟨rfl, HB.out.trans (h5.mono HB.out.size)⟩

set_option maxHeartbeats 400000 in
theorem sums_heavy (a0 a1 a2 : Int) (a3 : Option Addr) (len3 cap3 : Nat) (w : World) (hheavy : ¬ len3 ≤ 600) :
    Calls Try.prog 4 #[.int .i64 a0, .int .i64 a1, .int .i64 a2, .slice a3 len3 cap3] w fun e w' => e = .returned (.bool true) ∧ Below w.heap.size w w' := by
  have hd : decide (len3 ≤ 600) = false := by simpa using hheavy
  have HL := Lib.hid (light_any a3 len3 cap3 w)
  rw [hd] at HL
  clear hd
  go_enter Try.func4, Try.ntmps4
  go_wp2_with fail
  refine HL.out.mono ?_
  rintro e w' ⟨rfl, rfl⟩
  go_wp2_with fail
  refine (sane_any _).mono ?_
  rintro e w5 ⟨rfl, h5⟩
  go_wp2
  go_ret
  exact ⟨rfl, h5⟩
end Go.Proofs.Ytjfknijaohemgaa
