/- The walk of BucketChanges. -/
import Derived.Test.YtcfkmkabjalgjacWk
import Derived.Test.YtcfkmkabjalgjacBkcf
import Derived.Test.YtcfkmkabjalgjacPickl
import Derived.Deep.DeepCutAuto
import Derived.OrdersHeld
import Derived.RegionTactic
namespace Go.Proofs.Ytcfkmkabjalgjac
open Go.RowKit
set_option linter.unusedVariables false
set_option linter.unusedSimpArgs false

set_option maxRecDepth 100000 in
set_option maxHeartbeats 4000000 in
theorem bchanges_walk (a0 : Option Addr) (len0 cap0 : Nat) (z0 : List Int) (w : World) (w0 : IsRow .i64 w a0 len0 cap0 z0) (hlight : len0 ≤ 600) :
    Calls Try.prog 7 #[.slice a0 len0 cap0] w fun e w' => e = .returned (.bool true) ∧ Below w.heap.size w w' := by
  have hd : decide (len0 ≤ 600) = true := by simpa using hlight
  have HR := Lib.hid (roll_any a0 len0 cap0 z0 w w0)
  have HL := Lib.hid (light_any a0 len0 cap0 w)

  rw [hd] at HL
  clear w0 hd 
  go_enter Try.func7, Try.ntmps7
  go_wp2_with fail
  refine HL.out.mono ?_
  rintro e w' ⟨rfl, rfl⟩
  go_wp2_with fail
  refine HR.out.mono ?_
  rintro e w1 ⟨rfl, hd1, hb1, hs1⟩
  have HD1 := Lib.hid hd1
  have HB1 := Lib.hid hb1
  have HS1 := Lib.hid hs1
  clear hd1 hb1 hs1 HR HL
  go_wp2_with fail
  refine (bucket_made _ _ HD1.out).mono ?_
  rintro e w2 ⟨x, hok, ht, rfl, hd2, hk2⟩
  have HB := Lib.hid (HB1.out.trans (hk2.toBelow (Nat.le_refl _) (by have := HS1.out; omega)))
  have HO := Lib.hid hok
  have HD := Lib.hid hd2
  have x3 : 0 ≤ x.t := hok.2.2.1
  have hdg : w.heap.size < w2.heap.size := hd2.lt
  clear hd2 hk2 HD1 HB1 HS1 hok
  unfold Bk.v
  go_wp2_with fail
  refine (pick_list w.heap.size _ [0, 1, 50, 4611686018427387904] _ (by repeat (first | exact HD.out | refine DiceAt.alloc ?_ _ | refine DiceAt.drew ?_)) (by simp) (by simp) (by omega) (fun i hi => ?_)).mono ?_
  · have hi2 : i < 4 := by simpa using hi
    obtain rfl | rfl | rfl | rfl : i = 0 ∨ i = 1 ∨ i = 2 ∨ i = 3 := by omega
    all_goals simp [go_sem]
  rintro e w3 ⟨r, hr, rfl, hd3, hr3⟩
  have Kn : Hid (BkAt w3 w2.heap.size x) := Lib.hid (BkAt.rolled (by repeat (first | exact BkAt.new _ (x) _ | refine BkAt.alloc ?_ _ | refine BkAt.drew ?_)) hr3 (by omega))
  have HBn : Hid (Below w.heap.size w w3) := Lib.hid (below_roll (by repeat (first | exact HB.out | refine below_al ?_ _ | refine Below.drew ?_)) hr3 (Nat.le_refl _))
  have HDn : Hid (DiceAt w3 w.heap.size) := Lib.hid hd3
  have K := Kn
  clear Kn
  clear HB
  have HB := HBn
  clear HBn
  clear HD
  have HD := HDn
  clear HDn
  clear hd3 hr3
  obtain ⟨k_0, k_1, k_2, k_3, k_4, k_f0, k_f1, k_f2, k_f3, k_f4, k_l⟩ := K.out
  go_wp2_with fail
  refine (next_any w.heap.size 20 _ (by repeat (first | exact HD.out | refine DiceAt.alloc ?_ _ | refine DiceAt.drew ?_)) (by omega)).mono ?_
  rintro e w4 ⟨p, p0, p1, rfl, hd4, hr4⟩
  have p2 : p < 20 := by omega
  clear k_0 k_1 k_2 k_3 k_4 k_f0 k_f1 k_f2 k_f3 k_f4 k_l
  have Kn : Hid (BkAt w4 w2.heap.size x) := Lib.hid (BkAt.rolled (by repeat (first | exact K.out | refine BkAt.alloc ?_ _ | refine BkAt.drew ?_ | exact BkAt.new _ _ _)) hr4 (by omega))
  have HBn : Hid (Below w.heap.size w w4) := Lib.hid (below_roll (by repeat (first | exact HB.out | refine below_al ?_ _ | refine Below.drew ?_)) hr4 (Nat.le_refl _))
  have HDn : Hid (DiceAt w4 w.heap.size) := Lib.hid hd4
  clear K
  have K := Kn
  clear Kn
  clear HB
  have HB := HBn
  clear HBn
  clear HD
  have HD := HDn
  clear HDn
  clear hd4 hr4 p1
  obtain ⟨k_0, k_1, k_2, k_3, k_4, k_f0, k_f1, k_f2, k_f3, k_f4, k_l⟩ := K.out
  go_wp2_with fail
  refine (next_any w.heap.size 60 _ (by repeat (first | exact HD.out | refine DiceAt.alloc ?_ _ | refine DiceAt.drew ?_)) (by omega)).mono ?_
  rintro e w5 ⟨s, s0, s1, rfl, hd5, hr5⟩
  have s2 : s < 60 := by omega
  clear k_0 k_1 k_2 k_3 k_4 k_f0 k_f1 k_f2 k_f3 k_f4 k_l
  have Kn : Hid (BkAt w5 w2.heap.size x) := Lib.hid (BkAt.rolled (by repeat (first | exact K.out | refine BkAt.alloc ?_ _ | refine BkAt.drew ?_ | exact BkAt.new _ _ _)) hr5 (by omega))
  have HBn : Hid (Below w.heap.size w w5) := Lib.hid (below_roll (by repeat (first | exact HB.out | refine below_al ?_ _ | refine Below.drew ?_)) hr5 (Nat.le_refl _))
  have HDn : Hid (DiceAt w5 w.heap.size) := Lib.hid hd5
  clear K
  have K := Kn
  clear Kn
  clear HB
  have HB := HBn
  clear HBn
  clear HD
  have HD := HDn
  clear HDn
  clear hd5 hr5 s1
  obtain ⟨k_0, k_1, k_2, k_3, k_4, k_f0, k_f1, k_f2, k_f3, k_f4, k_l⟩ := K.out
  have hrr : r = 4611686018427387904 ∨ (0 ≤ r ∧ r ≤ 1000) := by
    simp only [List.mem_cons, List.not_mem_nil, or_false] at hr
    omega
  clear hr
  obtain ⟨z, l, hcc, hq1, hq2⟩ := chg_ok2 x r (1 + p) s HO.out hrr (by omega) (by omega) s0 (by omega)
  have CH := Lib.hid (fun w => chg_any x r (1 + p) s x.t w)
  rw [hcc] at CH
  have TX := Lib.hid (fun w => tok_any x w)
  have TC := Lib.hid (fun w => tok_any ⟨r, 1 + p, z, l, x.t⟩ w)
  simp only [Bk.v] at CH TX TC
  clear hcc hrr
  by_cases hm : r = 4611686018427387904
  · have hrb : (r == 4611686018427387904) = true := by simp [hm]
    rw [hq1 hm] at TC
    clear hq1 hq2 hm
    go_wp2_with fail
    refine (CH.out _).mono ?_
    rintro e w6 ⟨rfl, hb6⟩
    clear k_0 k_1 k_2 k_3 k_4 k_f0 k_f1 k_f2 k_f3 k_f4 k_l
    have Kn : Hid (BkAt w6 w2.heap.size x) := Lib.hid (BkAt.call (by repeat (first | exact K.out | refine BkAt.alloc ?_ _ | refine BkAt.drew ?_ | exact BkAt.new _ _ _)) hb6)
    have HBn : Hid (Below w.heap.size w w6) := Lib.hid (below_call (by repeat (first | exact HB.out | refine below_al ?_ _ | refine Below.drew ?_)) hb6)
    have HDn : Hid (DiceAt w6 w.heap.size) := Lib.hid (DiceAt.below (by repeat (first | exact HD.out | refine DiceAt.alloc ?_ _ | refine DiceAt.drew ?_)) hb6)
    clear K
    have K := Kn
    clear Kn
    clear HB
    have HB := HBn
    clear HBn
    clear HD
    have HD := HDn
    clear HDn
    clear hb6
    obtain ⟨k_0, k_1, k_2, k_3, k_4, k_f0, k_f1, k_f2, k_f3, k_f4, k_l⟩ := K.out
    go_wp2_with fail
    refine (TC.out _).mono ?_
    rintro e w7 ⟨rfl, hb7⟩
    clear k_0 k_1 k_2 k_3 k_4 k_f0 k_f1 k_f2 k_f3 k_f4 k_l
    have Kn : Hid (BkAt w7 w2.heap.size x) := Lib.hid (BkAt.call (by repeat (first | exact K.out | refine BkAt.alloc ?_ _ | refine BkAt.drew ?_ | exact BkAt.new _ _ _)) hb7)
    have Cn : Hid (BkAt w7 w6.heap.size ⟨r, 1 + p, z, l, x.t⟩) := Lib.hid (BkAt.call (by repeat (first | exact BkAt.new _ (⟨r, 1 + p, z, l, x.t⟩) _ | refine BkAt.alloc ?_ _ | refine BkAt.drew ?_)) hb7)
    have HBn : Hid (Below w.heap.size w w7) := Lib.hid (below_call (by repeat (first | exact HB.out | refine below_al ?_ _ | refine Below.drew ?_)) hb7)
    have HDn : Hid (DiceAt w7 w.heap.size) := Lib.hid (DiceAt.below (by repeat (first | exact HD.out | refine DiceAt.alloc ?_ _ | refine DiceAt.drew ?_)) hb7)
    clear K
    have K := Kn
    clear Kn
    have C := Cn
    clear Cn
    clear HB
    have HB := HBn
    clear HBn
    clear HD
    have HD := HDn
    clear HDn
    clear hb7
    obtain ⟨k_0, k_1, k_2, k_3, k_4, k_f0, k_f1, k_f2, k_f3, k_f4, k_l⟩ := K.out
    obtain ⟨c_0, c_1, c_2, c_3, c_4, c_f0, c_f1, c_f2, c_f3, c_f4, c_l⟩ := C.out
    go_wp2_with fail
    refine (bsane _).mono ?_
    rintro e w8 ⟨rfl, hb8⟩
    clear k_0 k_1 k_2 k_3 k_4 k_f0 k_f1 k_f2 k_f3 k_f4 k_l
    clear c_0 c_1 c_2 c_3 c_4 c_f0 c_f1 c_f2 c_f3 c_f4 c_l
    have Kn : Hid (BkAt w8 w2.heap.size x) := Lib.hid (BkAt.call (by repeat (first | exact K.out | refine BkAt.alloc ?_ _ | refine BkAt.drew ?_ | exact BkAt.new _ _ _)) hb8)
    have Cn : Hid (BkAt w8 w6.heap.size ⟨r, 1 + p, z, l, x.t⟩) := Lib.hid (BkAt.call (by repeat (first | exact C.out | refine BkAt.alloc ?_ _ | refine BkAt.drew ?_ | exact BkAt.new _ _ _)) hb8)
    have HBn : Hid (Below w.heap.size w w8) := Lib.hid (below_call (by repeat (first | exact HB.out | refine below_al ?_ _ | refine Below.drew ?_)) hb8)
    have HDn : Hid (DiceAt w8 w.heap.size) := Lib.hid (DiceAt.below (by repeat (first | exact HD.out | refine DiceAt.alloc ?_ _ | refine DiceAt.drew ?_)) hb8)
    clear K
    have K := Kn
    clear Kn
    clear C
    have C := Cn
    clear Cn
    clear HB
    have HB := HBn
    clear HBn
    clear HD
    have HD := HDn
    clear HDn
    clear hb8
    obtain ⟨k_0, k_1, k_2, k_3, k_4, k_f0, k_f1, k_f2, k_f3, k_f4, k_l⟩ := K.out
    obtain ⟨c_0, c_1, c_2, c_3, c_4, c_f0, c_f1, c_f2, c_f3, c_f4, c_l⟩ := C.out
    go_wp2
    go_ret
    exact ⟨rfl, HB.out⟩
  · have hrb : (r == 4611686018427387904) = false := by simp [hm]
    obtain ⟨rfl, hq3⟩ := hq2 hm
    rw [hq3] at TC
    clear hq1 hq2 hq3 hm
    obtain ⟨t, htt⟩ : ∃ t, btok x = t := ⟨_, rfl⟩
    rw [htt] at TX TC
    clear htt
    by_cases hx : x.r = 4611686018427387904
    · have hxb : (x.r == 4611686018427387904) = true := by simp [hx]
      rw [if_pos hx] at TC
      clear hx
      by_cases hst : z < t
      · skip
        go_wp2_with fail
        refine (CH.out _).mono ?_
        rintro e w6 ⟨rfl, hb6⟩
        clear k_0 k_1 k_2 k_3 k_4 k_f0 k_f1 k_f2 k_f3 k_f4 k_l
        have Kn : Hid (BkAt w6 w2.heap.size x) := Lib.hid (BkAt.call (by repeat (first | exact K.out | refine BkAt.alloc ?_ _ | refine BkAt.drew ?_ | exact BkAt.new _ _ _)) hb6)
        have HBn : Hid (Below w.heap.size w w6) := Lib.hid (below_call (by repeat (first | exact HB.out | refine below_al ?_ _ | refine Below.drew ?_)) hb6)
        have HDn : Hid (DiceAt w6 w.heap.size) := Lib.hid (DiceAt.below (by repeat (first | exact HD.out | refine DiceAt.alloc ?_ _ | refine DiceAt.drew ?_)) hb6)
        clear K
        have K := Kn
        clear Kn
        clear HB
        have HB := HBn
        clear HBn
        clear HD
        have HD := HDn
        clear HDn
        clear hb6
        obtain ⟨k_0, k_1, k_2, k_3, k_4, k_f0, k_f1, k_f2, k_f3, k_f4, k_l⟩ := K.out
        go_wp2_with fail
        refine (TX.out _).mono ?_
        rintro e w7 ⟨rfl, hb7⟩
        clear k_0 k_1 k_2 k_3 k_4 k_f0 k_f1 k_f2 k_f3 k_f4 k_l
        have Kn : Hid (BkAt w7 w2.heap.size x) := Lib.hid (BkAt.call (by repeat (first | exact K.out | refine BkAt.alloc ?_ _ | refine BkAt.drew ?_ | exact BkAt.new _ _ _)) hb7)
        have Cn : Hid (BkAt w7 w6.heap.size ⟨r, 1 + p, z, l, x.t⟩) := Lib.hid (BkAt.call (by repeat (first | exact BkAt.new _ (⟨r, 1 + p, z, l, x.t⟩) _ | refine BkAt.alloc ?_ _ | refine BkAt.drew ?_)) hb7)
        have HBn : Hid (Below w.heap.size w w7) := Lib.hid (below_call (by repeat (first | exact HB.out | refine below_al ?_ _ | refine Below.drew ?_)) hb7)
        have HDn : Hid (DiceAt w7 w.heap.size) := Lib.hid (DiceAt.below (by repeat (first | exact HD.out | refine DiceAt.alloc ?_ _ | refine DiceAt.drew ?_)) hb7)
        clear K
        have K := Kn
        clear Kn
        have C := Cn
        clear Cn
        clear HB
        have HB := HBn
        clear HBn
        clear HD
        have HD := HDn
        clear HDn
        clear hb7
        obtain ⟨k_0, k_1, k_2, k_3, k_4, k_f0, k_f1, k_f2, k_f3, k_f4, k_l⟩ := K.out
        obtain ⟨c_0, c_1, c_2, c_3, c_4, c_f0, c_f1, c_f2, c_f3, c_f4, c_l⟩ := C.out
        go_wp2_with fail
        refine (TC.out _).mono ?_
        rintro e w8 ⟨rfl, hb8⟩
        clear k_0 k_1 k_2 k_3 k_4 k_f0 k_f1 k_f2 k_f3 k_f4 k_l
        clear c_0 c_1 c_2 c_3 c_4 c_f0 c_f1 c_f2 c_f3 c_f4 c_l
        have Kn : Hid (BkAt w8 w2.heap.size x) := Lib.hid (BkAt.call (by repeat (first | exact K.out | refine BkAt.alloc ?_ _ | refine BkAt.drew ?_ | exact BkAt.new _ _ _)) hb8)
        have Cn : Hid (BkAt w8 w6.heap.size ⟨r, 1 + p, z, l, x.t⟩) := Lib.hid (BkAt.call (by repeat (first | exact C.out | refine BkAt.alloc ?_ _ | refine BkAt.drew ?_ | exact BkAt.new _ _ _)) hb8)
        have HBn : Hid (Below w.heap.size w w8) := Lib.hid (below_call (by repeat (first | exact HB.out | refine below_al ?_ _ | refine Below.drew ?_)) hb8)
        have HDn : Hid (DiceAt w8 w.heap.size) := Lib.hid (DiceAt.below (by repeat (first | exact HD.out | refine DiceAt.alloc ?_ _ | refine DiceAt.drew ?_)) hb8)
        clear K
        have K := Kn
        clear Kn
        clear C
        have C := Cn
        clear Cn
        clear HB
        have HB := HBn
        clear HBn
        clear HD
        have HD := HDn
        clear HDn
        clear hb8
        obtain ⟨k_0, k_1, k_2, k_3, k_4, k_f0, k_f1, k_f2, k_f3, k_f4, k_l⟩ := K.out
        obtain ⟨c_0, c_1, c_2, c_3, c_4, c_f0, c_f1, c_f2, c_f3, c_f4, c_l⟩ := C.out
        go_wp2_with fail
        refine (bsane _).mono ?_
        rintro e w9 ⟨rfl, hb9⟩
        clear k_0 k_1 k_2 k_3 k_4 k_f0 k_f1 k_f2 k_f3 k_f4 k_l
        clear c_0 c_1 c_2 c_3 c_4 c_f0 c_f1 c_f2 c_f3 c_f4 c_l
        have Kn : Hid (BkAt w9 w2.heap.size x) := Lib.hid (BkAt.call (by repeat (first | exact K.out | refine BkAt.alloc ?_ _ | refine BkAt.drew ?_ | exact BkAt.new _ _ _)) hb9)
        have Cn : Hid (BkAt w9 w6.heap.size ⟨r, 1 + p, z, l, x.t⟩) := Lib.hid (BkAt.call (by repeat (first | exact C.out | refine BkAt.alloc ?_ _ | refine BkAt.drew ?_ | exact BkAt.new _ _ _)) hb9)
        have HBn : Hid (Below w.heap.size w w9) := Lib.hid (below_call (by repeat (first | exact HB.out | refine below_al ?_ _ | refine Below.drew ?_)) hb9)
        have HDn : Hid (DiceAt w9 w.heap.size) := Lib.hid (DiceAt.below (by repeat (first | exact HD.out | refine DiceAt.alloc ?_ _ | refine DiceAt.drew ?_)) hb9)
        clear K
        have K := Kn
        clear Kn
        clear C
        have C := Cn
        clear Cn
        clear HB
        have HB := HBn
        clear HBn
        clear HD
        have HD := HDn
        clear HDn
        clear hb9
        obtain ⟨k_0, k_1, k_2, k_3, k_4, k_f0, k_f1, k_f2, k_f3, k_f4, k_l⟩ := K.out
        obtain ⟨c_0, c_1, c_2, c_3, c_4, c_f0, c_f1, c_f2, c_f3, c_f4, c_l⟩ := C.out
        go_wp2
        go_ret
        exact ⟨rfl, HB.out⟩
      · have hst2 : t ≤ z := by omega
        go_wp2_with fail
        refine (CH.out _).mono ?_
        rintro e w6 ⟨rfl, hb6⟩
        clear k_0 k_1 k_2 k_3 k_4 k_f0 k_f1 k_f2 k_f3 k_f4 k_l
        have Kn : Hid (BkAt w6 w2.heap.size x) := Lib.hid (BkAt.call (by repeat (first | exact K.out | refine BkAt.alloc ?_ _ | refine BkAt.drew ?_ | exact BkAt.new _ _ _)) hb6)
        have HBn : Hid (Below w.heap.size w w6) := Lib.hid (below_call (by repeat (first | exact HB.out | refine below_al ?_ _ | refine Below.drew ?_)) hb6)
        have HDn : Hid (DiceAt w6 w.heap.size) := Lib.hid (DiceAt.below (by repeat (first | exact HD.out | refine DiceAt.alloc ?_ _ | refine DiceAt.drew ?_)) hb6)
        clear K
        have K := Kn
        clear Kn
        clear HB
        have HB := HBn
        clear HBn
        clear HD
        have HD := HDn
        clear HDn
        clear hb6
        obtain ⟨k_0, k_1, k_2, k_3, k_4, k_f0, k_f1, k_f2, k_f3, k_f4, k_l⟩ := K.out
        go_wp2_with fail
        refine (TX.out _).mono ?_
        rintro e w7 ⟨rfl, hb7⟩
        clear k_0 k_1 k_2 k_3 k_4 k_f0 k_f1 k_f2 k_f3 k_f4 k_l
        have Kn : Hid (BkAt w7 w2.heap.size x) := Lib.hid (BkAt.call (by repeat (first | exact K.out | refine BkAt.alloc ?_ _ | refine BkAt.drew ?_ | exact BkAt.new _ _ _)) hb7)
        have Cn : Hid (BkAt w7 w6.heap.size ⟨r, 1 + p, z, l, x.t⟩) := Lib.hid (BkAt.call (by repeat (first | exact BkAt.new _ (⟨r, 1 + p, z, l, x.t⟩) _ | refine BkAt.alloc ?_ _ | refine BkAt.drew ?_)) hb7)
        have HBn : Hid (Below w.heap.size w w7) := Lib.hid (below_call (by repeat (first | exact HB.out | refine below_al ?_ _ | refine Below.drew ?_)) hb7)
        have HDn : Hid (DiceAt w7 w.heap.size) := Lib.hid (DiceAt.below (by repeat (first | exact HD.out | refine DiceAt.alloc ?_ _ | refine DiceAt.drew ?_)) hb7)
        clear K
        have K := Kn
        clear Kn
        have C := Cn
        clear Cn
        clear HB
        have HB := HBn
        clear HBn
        clear HD
        have HD := HDn
        clear HDn
        clear hb7
        obtain ⟨k_0, k_1, k_2, k_3, k_4, k_f0, k_f1, k_f2, k_f3, k_f4, k_l⟩ := K.out
        obtain ⟨c_0, c_1, c_2, c_3, c_4, c_f0, c_f1, c_f2, c_f3, c_f4, c_l⟩ := C.out
        go_wp2_with fail
        refine (TC.out _).mono ?_
        rintro e w8 ⟨rfl, hb8⟩
        clear k_0 k_1 k_2 k_3 k_4 k_f0 k_f1 k_f2 k_f3 k_f4 k_l
        clear c_0 c_1 c_2 c_3 c_4 c_f0 c_f1 c_f2 c_f3 c_f4 c_l
        have Kn : Hid (BkAt w8 w2.heap.size x) := Lib.hid (BkAt.call (by repeat (first | exact K.out | refine BkAt.alloc ?_ _ | refine BkAt.drew ?_ | exact BkAt.new _ _ _)) hb8)
        have Cn : Hid (BkAt w8 w6.heap.size ⟨r, 1 + p, z, l, x.t⟩) := Lib.hid (BkAt.call (by repeat (first | exact C.out | refine BkAt.alloc ?_ _ | refine BkAt.drew ?_ | exact BkAt.new _ _ _)) hb8)
        have HBn : Hid (Below w.heap.size w w8) := Lib.hid (below_call (by repeat (first | exact HB.out | refine below_al ?_ _ | refine Below.drew ?_)) hb8)
        have HDn : Hid (DiceAt w8 w.heap.size) := Lib.hid (DiceAt.below (by repeat (first | exact HD.out | refine DiceAt.alloc ?_ _ | refine DiceAt.drew ?_)) hb8)
        clear K
        have K := Kn
        clear Kn
        clear C
        have C := Cn
        clear Cn
        clear HB
        have HB := HBn
        clear HBn
        clear HD
        have HD := HDn
        clear HDn
        clear hb8
        obtain ⟨k_0, k_1, k_2, k_3, k_4, k_f0, k_f1, k_f2, k_f3, k_f4, k_l⟩ := K.out
        obtain ⟨c_0, c_1, c_2, c_3, c_4, c_f0, c_f1, c_f2, c_f3, c_f4, c_l⟩ := C.out
        go_wp2_with fail
        refine (bsane _).mono ?_
        rintro e w9 ⟨rfl, hb9⟩
        clear k_0 k_1 k_2 k_3 k_4 k_f0 k_f1 k_f2 k_f3 k_f4 k_l
        clear c_0 c_1 c_2 c_3 c_4 c_f0 c_f1 c_f2 c_f3 c_f4 c_l
        have Kn : Hid (BkAt w9 w2.heap.size x) := Lib.hid (BkAt.call (by repeat (first | exact K.out | refine BkAt.alloc ?_ _ | refine BkAt.drew ?_ | exact BkAt.new _ _ _)) hb9)
        have Cn : Hid (BkAt w9 w6.heap.size ⟨r, 1 + p, z, l, x.t⟩) := Lib.hid (BkAt.call (by repeat (first | exact C.out | refine BkAt.alloc ?_ _ | refine BkAt.drew ?_ | exact BkAt.new _ _ _)) hb9)
        have HBn : Hid (Below w.heap.size w w9) := Lib.hid (below_call (by repeat (first | exact HB.out | refine below_al ?_ _ | refine Below.drew ?_)) hb9)
        have HDn : Hid (DiceAt w9 w.heap.size) := Lib.hid (DiceAt.below (by repeat (first | exact HD.out | refine DiceAt.alloc ?_ _ | refine DiceAt.drew ?_)) hb9)
        clear K
        have K := Kn
        clear Kn
        clear C
        have C := Cn
        clear Cn
        clear HB
        have HB := HBn
        clear HBn
        clear HD
        have HD := HDn
        clear HDn
        clear hb9
        obtain ⟨k_0, k_1, k_2, k_3, k_4, k_f0, k_f1, k_f2, k_f3, k_f4, k_l⟩ := K.out
        obtain ⟨c_0, c_1, c_2, c_3, c_4, c_f0, c_f1, c_f2, c_f3, c_f4, c_l⟩ := C.out
        go_wp2
        go_ret
        exact ⟨rfl, HB.out⟩
    · have hxb : (x.r == 4611686018427387904) = false := by simp [hx]
      rw [if_neg hx] at TC
      clear hx
      by_cases hst : z < t
      · rw [if_pos hst] at TC
        go_wp2_with fail
        refine (CH.out _).mono ?_
        rintro e w6 ⟨rfl, hb6⟩
        clear k_0 k_1 k_2 k_3 k_4 k_f0 k_f1 k_f2 k_f3 k_f4 k_l
        have Kn : Hid (BkAt w6 w2.heap.size x) := Lib.hid (BkAt.call (by repeat (first | exact K.out | refine BkAt.alloc ?_ _ | refine BkAt.drew ?_ | exact BkAt.new _ _ _)) hb6)
        have HBn : Hid (Below w.heap.size w w6) := Lib.hid (below_call (by repeat (first | exact HB.out | refine below_al ?_ _ | refine Below.drew ?_)) hb6)
        have HDn : Hid (DiceAt w6 w.heap.size) := Lib.hid (DiceAt.below (by repeat (first | exact HD.out | refine DiceAt.alloc ?_ _ | refine DiceAt.drew ?_)) hb6)
        clear K
        have K := Kn
        clear Kn
        clear HB
        have HB := HBn
        clear HBn
        clear HD
        have HD := HDn
        clear HDn
        clear hb6
        obtain ⟨k_0, k_1, k_2, k_3, k_4, k_f0, k_f1, k_f2, k_f3, k_f4, k_l⟩ := K.out
        go_wp2_with fail
        refine (TX.out _).mono ?_
        rintro e w7 ⟨rfl, hb7⟩
        clear k_0 k_1 k_2 k_3 k_4 k_f0 k_f1 k_f2 k_f3 k_f4 k_l
        have Kn : Hid (BkAt w7 w2.heap.size x) := Lib.hid (BkAt.call (by repeat (first | exact K.out | refine BkAt.alloc ?_ _ | refine BkAt.drew ?_ | exact BkAt.new _ _ _)) hb7)
        have Cn : Hid (BkAt w7 w6.heap.size ⟨r, 1 + p, z, l, x.t⟩) := Lib.hid (BkAt.call (by repeat (first | exact BkAt.new _ (⟨r, 1 + p, z, l, x.t⟩) _ | refine BkAt.alloc ?_ _ | refine BkAt.drew ?_)) hb7)
        have HBn : Hid (Below w.heap.size w w7) := Lib.hid (below_call (by repeat (first | exact HB.out | refine below_al ?_ _ | refine Below.drew ?_)) hb7)
        have HDn : Hid (DiceAt w7 w.heap.size) := Lib.hid (DiceAt.below (by repeat (first | exact HD.out | refine DiceAt.alloc ?_ _ | refine DiceAt.drew ?_)) hb7)
        clear K
        have K := Kn
        clear Kn
        have C := Cn
        clear Cn
        clear HB
        have HB := HBn
        clear HBn
        clear HD
        have HD := HDn
        clear HDn
        clear hb7
        obtain ⟨k_0, k_1, k_2, k_3, k_4, k_f0, k_f1, k_f2, k_f3, k_f4, k_l⟩ := K.out
        obtain ⟨c_0, c_1, c_2, c_3, c_4, c_f0, c_f1, c_f2, c_f3, c_f4, c_l⟩ := C.out
        go_wp2_with fail
        refine (TC.out _).mono ?_
        rintro e w8 ⟨rfl, hb8⟩
        clear k_0 k_1 k_2 k_3 k_4 k_f0 k_f1 k_f2 k_f3 k_f4 k_l
        clear c_0 c_1 c_2 c_3 c_4 c_f0 c_f1 c_f2 c_f3 c_f4 c_l
        have Kn : Hid (BkAt w8 w2.heap.size x) := Lib.hid (BkAt.call (by repeat (first | exact K.out | refine BkAt.alloc ?_ _ | refine BkAt.drew ?_ | exact BkAt.new _ _ _)) hb8)
        have Cn : Hid (BkAt w8 w6.heap.size ⟨r, 1 + p, z, l, x.t⟩) := Lib.hid (BkAt.call (by repeat (first | exact C.out | refine BkAt.alloc ?_ _ | refine BkAt.drew ?_ | exact BkAt.new _ _ _)) hb8)
        have HBn : Hid (Below w.heap.size w w8) := Lib.hid (below_call (by repeat (first | exact HB.out | refine below_al ?_ _ | refine Below.drew ?_)) hb8)
        have HDn : Hid (DiceAt w8 w.heap.size) := Lib.hid (DiceAt.below (by repeat (first | exact HD.out | refine DiceAt.alloc ?_ _ | refine DiceAt.drew ?_)) hb8)
        clear K
        have K := Kn
        clear Kn
        clear C
        have C := Cn
        clear Cn
        clear HB
        have HB := HBn
        clear HBn
        clear HD
        have HD := HDn
        clear HDn
        clear hb8
        obtain ⟨k_0, k_1, k_2, k_3, k_4, k_f0, k_f1, k_f2, k_f3, k_f4, k_l⟩ := K.out
        obtain ⟨c_0, c_1, c_2, c_3, c_4, c_f0, c_f1, c_f2, c_f3, c_f4, c_l⟩ := C.out
        go_wp2_with fail
        refine (bsane _).mono ?_
        rintro e w9 ⟨rfl, hb9⟩
        clear k_0 k_1 k_2 k_3 k_4 k_f0 k_f1 k_f2 k_f3 k_f4 k_l
        clear c_0 c_1 c_2 c_3 c_4 c_f0 c_f1 c_f2 c_f3 c_f4 c_l
        have Kn : Hid (BkAt w9 w2.heap.size x) := Lib.hid (BkAt.call (by repeat (first | exact K.out | refine BkAt.alloc ?_ _ | refine BkAt.drew ?_ | exact BkAt.new _ _ _)) hb9)
        have Cn : Hid (BkAt w9 w6.heap.size ⟨r, 1 + p, z, l, x.t⟩) := Lib.hid (BkAt.call (by repeat (first | exact C.out | refine BkAt.alloc ?_ _ | refine BkAt.drew ?_ | exact BkAt.new _ _ _)) hb9)
        have HBn : Hid (Below w.heap.size w w9) := Lib.hid (below_call (by repeat (first | exact HB.out | refine below_al ?_ _ | refine Below.drew ?_)) hb9)
        have HDn : Hid (DiceAt w9 w.heap.size) := Lib.hid (DiceAt.below (by repeat (first | exact HD.out | refine DiceAt.alloc ?_ _ | refine DiceAt.drew ?_)) hb9)
        clear K
        have K := Kn
        clear Kn
        clear C
        have C := Cn
        clear Cn
        clear HB
        have HB := HBn
        clear HBn
        clear HD
        have HD := HDn
        clear HDn
        clear hb9
        obtain ⟨k_0, k_1, k_2, k_3, k_4, k_f0, k_f1, k_f2, k_f3, k_f4, k_l⟩ := K.out
        obtain ⟨c_0, c_1, c_2, c_3, c_4, c_f0, c_f1, c_f2, c_f3, c_f4, c_l⟩ := C.out
        go_wp2
        go_ret
        exact ⟨rfl, HB.out⟩
      · have hst2 : t ≤ z := by omega
        rw [if_neg hst] at TC
        clear hst
        go_wp2_with fail
        refine (CH.out _).mono ?_
        rintro e w6 ⟨rfl, hb6⟩
        clear k_0 k_1 k_2 k_3 k_4 k_f0 k_f1 k_f2 k_f3 k_f4 k_l
        have Kn : Hid (BkAt w6 w2.heap.size x) := Lib.hid (BkAt.call (by repeat (first | exact K.out | refine BkAt.alloc ?_ _ | refine BkAt.drew ?_ | exact BkAt.new _ _ _)) hb6)
        have HBn : Hid (Below w.heap.size w w6) := Lib.hid (below_call (by repeat (first | exact HB.out | refine below_al ?_ _ | refine Below.drew ?_)) hb6)
        have HDn : Hid (DiceAt w6 w.heap.size) := Lib.hid (DiceAt.below (by repeat (first | exact HD.out | refine DiceAt.alloc ?_ _ | refine DiceAt.drew ?_)) hb6)
        clear K
        have K := Kn
        clear Kn
        clear HB
        have HB := HBn
        clear HBn
        clear HD
        have HD := HDn
        clear HDn
        clear hb6
        obtain ⟨k_0, k_1, k_2, k_3, k_4, k_f0, k_f1, k_f2, k_f3, k_f4, k_l⟩ := K.out
        go_wp2_with fail
        refine (TX.out _).mono ?_
        rintro e w7 ⟨rfl, hb7⟩
        clear k_0 k_1 k_2 k_3 k_4 k_f0 k_f1 k_f2 k_f3 k_f4 k_l
        have Kn : Hid (BkAt w7 w2.heap.size x) := Lib.hid (BkAt.call (by repeat (first | exact K.out | refine BkAt.alloc ?_ _ | refine BkAt.drew ?_ | exact BkAt.new _ _ _)) hb7)
        have Cn : Hid (BkAt w7 w6.heap.size ⟨r, 1 + p, z, l, x.t⟩) := Lib.hid (BkAt.call (by repeat (first | exact BkAt.new _ (⟨r, 1 + p, z, l, x.t⟩) _ | refine BkAt.alloc ?_ _ | refine BkAt.drew ?_)) hb7)
        have HBn : Hid (Below w.heap.size w w7) := Lib.hid (below_call (by repeat (first | exact HB.out | refine below_al ?_ _ | refine Below.drew ?_)) hb7)
        have HDn : Hid (DiceAt w7 w.heap.size) := Lib.hid (DiceAt.below (by repeat (first | exact HD.out | refine DiceAt.alloc ?_ _ | refine DiceAt.drew ?_)) hb7)
        clear K
        have K := Kn
        clear Kn
        have C := Cn
        clear Cn
        clear HB
        have HB := HBn
        clear HBn
        clear HD
        have HD := HDn
        clear HDn
        clear hb7
        obtain ⟨k_0, k_1, k_2, k_3, k_4, k_f0, k_f1, k_f2, k_f3, k_f4, k_l⟩ := K.out
        obtain ⟨c_0, c_1, c_2, c_3, c_4, c_f0, c_f1, c_f2, c_f3, c_f4, c_l⟩ := C.out
        go_wp2_with fail
        refine (TC.out _).mono ?_
        rintro e w8 ⟨rfl, hb8⟩
        clear k_0 k_1 k_2 k_3 k_4 k_f0 k_f1 k_f2 k_f3 k_f4 k_l
        clear c_0 c_1 c_2 c_3 c_4 c_f0 c_f1 c_f2 c_f3 c_f4 c_l
        have Kn : Hid (BkAt w8 w2.heap.size x) := Lib.hid (BkAt.call (by repeat (first | exact K.out | refine BkAt.alloc ?_ _ | refine BkAt.drew ?_ | exact BkAt.new _ _ _)) hb8)
        have Cn : Hid (BkAt w8 w6.heap.size ⟨r, 1 + p, z, l, x.t⟩) := Lib.hid (BkAt.call (by repeat (first | exact C.out | refine BkAt.alloc ?_ _ | refine BkAt.drew ?_ | exact BkAt.new _ _ _)) hb8)
        have HBn : Hid (Below w.heap.size w w8) := Lib.hid (below_call (by repeat (first | exact HB.out | refine below_al ?_ _ | refine Below.drew ?_)) hb8)
        have HDn : Hid (DiceAt w8 w.heap.size) := Lib.hid (DiceAt.below (by repeat (first | exact HD.out | refine DiceAt.alloc ?_ _ | refine DiceAt.drew ?_)) hb8)
        clear K
        have K := Kn
        clear Kn
        clear C
        have C := Cn
        clear Cn
        clear HB
        have HB := HBn
        clear HBn
        clear HD
        have HD := HDn
        clear HDn
        clear hb8
        obtain ⟨k_0, k_1, k_2, k_3, k_4, k_f0, k_f1, k_f2, k_f3, k_f4, k_l⟩ := K.out
        obtain ⟨c_0, c_1, c_2, c_3, c_4, c_f0, c_f1, c_f2, c_f3, c_f4, c_l⟩ := C.out
        go_wp2_with fail
        refine (bsane _).mono ?_
        rintro e w9 ⟨rfl, hb9⟩
        clear k_0 k_1 k_2 k_3 k_4 k_f0 k_f1 k_f2 k_f3 k_f4 k_l
        clear c_0 c_1 c_2 c_3 c_4 c_f0 c_f1 c_f2 c_f3 c_f4 c_l
        have Kn : Hid (BkAt w9 w2.heap.size x) := Lib.hid (BkAt.call (by repeat (first | exact K.out | refine BkAt.alloc ?_ _ | refine BkAt.drew ?_ | exact BkAt.new _ _ _)) hb9)
        have Cn : Hid (BkAt w9 w6.heap.size ⟨r, 1 + p, z, l, x.t⟩) := Lib.hid (BkAt.call (by repeat (first | exact C.out | refine BkAt.alloc ?_ _ | refine BkAt.drew ?_ | exact BkAt.new _ _ _)) hb9)
        have HBn : Hid (Below w.heap.size w w9) := Lib.hid (below_call (by repeat (first | exact HB.out | refine below_al ?_ _ | refine Below.drew ?_)) hb9)
        have HDn : Hid (DiceAt w9 w.heap.size) := Lib.hid (DiceAt.below (by repeat (first | exact HD.out | refine DiceAt.alloc ?_ _ | refine DiceAt.drew ?_)) hb9)
        clear K
        have K := Kn
        clear Kn
        clear C
        have C := Cn
        clear Cn
        clear HB
        have HB := HBn
        clear HBn
        clear HD
        have HD := HDn
        clear HDn
        clear hb9
        obtain ⟨k_0, k_1, k_2, k_3, k_4, k_f0, k_f1, k_f2, k_f3, k_f4, k_l⟩ := K.out
        obtain ⟨c_0, c_1, c_2, c_3, c_4, c_f0, c_f1, c_f2, c_f3, c_f4, c_l⟩ := C.out
        go_wp2
        go_ret
        exact ⟨rfl, HB.out⟩

set_option maxHeartbeats 400000 in
theorem bchanges_heavy (a0 : Option Addr) (len0 cap0 : Nat) (w : World) (hheavy : ¬ len0 ≤ 600) :
    Calls Try.prog 7 #[.slice a0 len0 cap0] w fun e w' => e = .returned (.bool true) ∧ Below w.heap.size w w' := by
  have hd : decide (len0 ≤ 600) = false := by simpa using hheavy
  have HL := Lib.hid (light_any a0 len0 cap0 w)
  rw [hd] at HL
  clear hd
  go_enter Try.func7, Try.ntmps7
  go_wp2_with fail
  refine HL.out.mono ?_
  rintro e w' ⟨rfl, rfl⟩
  go_wp2_with fail
  refine (bsane _).mono ?_
  rintro e w5 ⟨rfl, h5⟩
  go_wp2
  go_ret
  exact ⟨rfl, h5⟩
end Go.Proofs.Ytcfkmkabjalgjac
