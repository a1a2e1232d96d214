/- The walk of BucketBounds. -/
import Derived.Test.YtcfkmkabjalgjacWk
import Derived.Test.YtcfkmkabjalgjacBkbf
import Derived.Deep.DeepCutAuto
import Derived.OrdersHeld
import Derived.RegionTactic
import Derived.IntWalk
namespace Go.Proofs.Ytcfkmkabjalgjac
open Go.RowKit
set_option linter.unusedVariables false
set_option linter.unusedSimpArgs false

set_option maxRecDepth 100000 in
set_option maxHeartbeats 4000000 in
theorem bbounds_walk (a0 : Option Addr) (len0 cap0 : Nat) (z0 : List Int) (w : World) (w0 : IsRow .i64 w a0 len0 cap0 z0) (hlight : len0 ≤ 600) :
    Calls Try.prog 4 #[.slice a0 len0 cap0] w fun e w' => e = .returned (.bool true) ∧ Below w.heap.size w w' := by
  have hd : decide (len0 ≤ 600) = true := by simpa using hlight
  have HR := Lib.hid (roll_any a0 len0 cap0 z0 w w0)
  have HL := Lib.hid (light_any a0 len0 cap0 w)

  rw [hd] at HL
  clear w0 hd 
  go_enter Try.func4, Try.ntmps4
  go_wp2_with fail
  refine HL.out.mono ?_
  rintro e w' ⟨rfl, rfl⟩
  go_wp2_with fail
  refine HR.out.mono ?_
  rintro e w1 ⟨rfl, hd1, hb1, hs1⟩
  have HD1 := Lib.hid hd1
  have HB1 := Lib.hid hb1
  have HS1 := Lib.hid hs1
  clear hd1 hb1 hs1 HR HL
  go_wp2_with fail
  refine (bucket_made _ _ HD1.out).mono ?_
  rintro e w2 ⟨x, hok, ht, rfl, hd2, hk2⟩
  have HB := Lib.hid (HB1.out.trans (hk2.toBelow (Nat.le_refl _) (by have := HS1.out; omega)))
  have HO := Lib.hid hok
  have HD := Lib.hid hd2
  have x3 : 0 ≤ x.t := hok.2.2.1
  have hdg : w.heap.size < w2.heap.size := hd2.lt
  clear hd2 hk2 HD1 HB1 HS1 hok
  unfold Bk.v
  by_cases hr : x.r = 4611686018427387904
  · have hrb : (x.r == 4611686018427387904) = true := by simp [hr]
    clear hr
    go_wp2_with fail
    refine (bsane _).mono ?_
    rintro e w3 ⟨rfl, hb3⟩
    have HBn : Hid (Below w.heap.size w w3) := Lib.hid (below_call (by repeat (first | with_reducible exact HB.out | with_reducible refine below_al ?_ _ | with_reducible refine Below.drew ?_)) hb3)
    have HDn : Hid (DiceAt w3 w.heap.size) := Lib.hid (DiceAt.below (by repeat (first | with_reducible exact HD.out | with_reducible refine DiceAt.alloc ?_ _ | with_reducible refine DiceAt.drew ?_)) hb3)
    clear HB
    have HB := HBn
    clear HBn
    clear HD
    have HD := HDn
    clear HDn
    clear hb3
    go_wp2
    go_ret
    exact ⟨rfl, HB.out⟩
  · have hrb : (x.r == 4611686018427387904) = false := by simp [hr]
    have HR := Lib.hid hr
    clear hr
    have K := Lib.hid ((BkAt.new w2 x 24).alloc (.cells #[Value.int IntKind.i64 x.r, Value.int IntKind.i64 x.p, Value.int IntKind.i64 x.s, Value.int IntKind.i64 x.l, Value.int IntKind.i64 x.t] 24))
    have X : Hid (BkAt ((w2.alloc (.cells #[Value.int IntKind.i64 x.r, Value.int IntKind.i64 x.p, Value.int IntKind.i64 x.s, Value.int IntKind.i64 x.l, Value.int IntKind.i64 x.t] 24)).alloc (.cells #[Value.int IntKind.i64 x.r, Value.int IntKind.i64 x.p, Value.int IntKind.i64 x.s, Value.int IntKind.i64 x.l, Value.int IntKind.i64 x.t] 24)) (w2.heap.size + 1) x) := by
      have := BkAt.new (w2.alloc (.cells #[Value.int IntKind.i64 x.r, Value.int IntKind.i64 x.p, Value.int IntKind.i64 x.s, Value.int IntKind.i64 x.l, Value.int IntKind.i64 x.t] 24)) x 24
      rw [show (w2.alloc (.cells #[Value.int IntKind.i64 x.r, Value.int IntKind.i64 x.p, Value.int IntKind.i64 x.s, Value.int IntKind.i64 x.l, Value.int IntKind.i64 x.t] 24)).heap.size = w2.heap.size + 1 by simp] at this
      exact this
    have HBn := Lib.hid (below_al (below_al HB.out (.cells #[Value.int IntKind.i64 x.r, Value.int IntKind.i64 x.p, Value.int IntKind.i64 x.s, Value.int IntKind.i64 x.l, Value.int IntKind.i64 x.t] 24)) (.cells #[Value.int IntKind.i64 x.r, Value.int IntKind.i64 x.p, Value.int IntKind.i64 x.s, Value.int IntKind.i64 x.l, Value.int IntKind.i64 x.t] 24))
    have HDn := Lib.hid ((HD.out.alloc (.cells #[Value.int IntKind.i64 x.r, Value.int IntKind.i64 x.p, Value.int IntKind.i64 x.s, Value.int IntKind.i64 x.l, Value.int IntKind.i64 x.t] 24)).alloc (.cells #[Value.int IntKind.i64 x.r, Value.int IntKind.i64 x.p, Value.int IntKind.i64 x.s, Value.int IntKind.i64 x.l, Value.int IntKind.i64 x.t] 24))
    clear HB HD
    have HB := HBn
    have HD := HDn
    clear HBn HDn
    go_wp2
    generalize w2.heap.size = g at *
    go_loopw [6, 7] (fun s i wx => ∃ (k : Nat) (l t m : Int), k ≤ 20 ∧ i = .int .i64 k ∧ s = .int .i64 m ∧ Ok ⟨x.r, x.p, x.s, l, t⟩ ∧ BdInv x l t m k ∧ BkAt wx g ⟨x.r, x.p, x.s, l, t⟩ ∧ BkAt wx (g + 1) x ∧ DiceAt wx w.heap.size ∧ Below w.heap.size w wx) (fun _ i _ => 20 - (intOf i).toNat)
    case atStart => exact ⟨0, x.l, x.t, 0, by omega, rfl, rfl, HO.out, bd_start x, K.out, X.out, HD.out, HB.out⟩
    case round =>
      obtain ⟨k, l, t, m, hk, rfl, rfl, hy, hi, K, X, HD, HB⟩ := hrel
      have HY := Lib.hid hy
      have HI := Lib.hid hi
      have K := Lib.hid K
      have X := Lib.hid X
      have HD := Lib.hid HD
      have HB := Lib.hid HB
      have t0 : 0 ≤ t := hy.2.2.1
      have t1 : x.t ≤ t := hi.2.1
      have m0 : 0 ≤ m := hi.1
      have m1 : m ≤ 400 := by have := hi.2.2.2; omega
      clear hy hi
      by_cases hk2 : k < 20
      · by_cases ht2 : t < 1048566
        · skip
          generalize wr = w10 at *
          obtain ⟨k_0, k_1, k_2, k_3, k_4, k_f0, k_f1, k_f2, k_f3, k_f4, k_l⟩ := K.out
          obtain ⟨x_0, x_1, x_2, x_3, x_4, x_f0, x_f1, x_f2, x_f3, x_f4, x_l⟩ := X.out
          go_wp2_with fail
          refine (next_any w.heap.size 20 _ (by repeat (first | with_reducible exact HD.out | with_reducible refine DiceAt.alloc ?_ _ | with_reducible refine DiceAt.drew ?_)) (by omega)).mono ?_
          rintro e w11 ⟨n, n0, n1, rfl, hd11, hr11⟩
          have n2 : n < 20 := by omega
          clear k_0 k_1 k_2 k_3 k_4 k_f0 k_f1 k_f2 k_f3 k_f4 k_l
          clear x_0 x_1 x_2 x_3 x_4 x_f0 x_f1 x_f2 x_f3 x_f4 x_l
          have Kn : Hid (BkAt w11 g ⟨x.r, x.p, x.s, l, t⟩) := Lib.hid (BkAt.rolled (by repeat (first | with_reducible exact K.out | with_reducible refine BkAt.alloc ?_ _ | with_reducible refine BkAt.drew ?_)) hr11 (by omega))
          have Xn : Hid (BkAt w11 (g + 1) x) := Lib.hid (BkAt.rolled (by repeat (first | with_reducible exact X.out | with_reducible refine BkAt.alloc ?_ _ | with_reducible refine BkAt.drew ?_)) hr11 (by omega))
          have HBn : Hid (Below w.heap.size w w11) := Lib.hid (below_roll (by repeat (first | with_reducible exact HB.out | with_reducible refine below_al ?_ _ | with_reducible refine Below.drew ?_)) hr11 (Nat.le_refl _))
          have HDn : Hid (DiceAt w11 w.heap.size) := Lib.hid hd11
          clear K
          have K := Kn
          clear Kn
          clear X
          have X := Xn
          clear Xn
          clear HB
          have HB := HBn
          clear HBn
          clear HD
          have HD := HDn
          clear HDn
          clear hd11 hr11 n1
          obtain ⟨k_0, k_1, k_2, k_3, k_4, k_f0, k_f1, k_f2, k_f3, k_f4, k_l⟩ := K.out
          obtain ⟨x_0, x_1, x_2, x_3, x_4, x_f0, x_f1, x_f2, x_f3, x_f4, x_l⟩ := X.out
          go_upto_region 12 with fail
          go_cut [9, 10] from 24 to 84 (fun s9 s10 wx => ∃ (h : Nat) (l2 e0 j : Int), 0 ≤ j ∧ j < 9 ∧ Ok ⟨x.r, x.p, x.s, l2, t + j⟩ ∧ ((e0 = 0 ∧ l2 + n * x.p ≤ l + x.r * j) ∨ (e0 = 11 ∧ l2 ≤ l + x.r * j ∧ btok ⟨x.r, x.p, x.s, l2, t + j⟩ < n)) ∧ s9 = .pointer (some ⟨h, 0, none⟩) ∧ s10 = .int .i64 e0 ∧ g + 1 < h ∧ BkAt wx g ⟨x.r, x.p, x.s, l, t⟩ ∧ BkAt wx (g + 1) x ∧ BkAt wx h ⟨x.r, x.p, x.s, l2, t + j⟩ ∧ DiceAt wx w.heap.size ∧ Below w.heap.size w wx)
          case first =>
            refine wp_region_held (S := BCells g ⟨x.r, x.p, x.s, l, t⟩) (by kernel_rfl) ?_
            have KMn := Lib.hid (K.out.drew)
            have KXn := Lib.hid (X.out.drew)
            have LM := Lib.hid (HB.out.drew)
            have DD := Lib.hid (HD.out.drew)
            have hg0 : g + 1 < w11.heap.size := X.out.lt
            clear k_0 k_1 k_2 k_3 k_4 k_f0 k_f1 k_f2 k_f3 k_f4 k_l
            clear x_0 x_1 x_2 x_3 x_4 x_f0 x_f1 x_f2 x_f3 x_f4 x_l
            clear K X HB HD
            have KM := KMn
            have KX := KXn
            clear KMn KXn
            show wpAnyH _ _ _ _ _ _ _ _ (World.drew _)
            have hgs : g + 1 < (World.drew w11).heap.size := hg0
            clear hg0
            generalize World.drew w11 = v0 at *
            refine wpAnyH_take (i := 0) (v := ?_) rfl (by kernel_rfl) (by kernel_rfl) (by kernel_rfl) (fun _ _ _ h => h) (Or.inl ⟨by rfl, ?_⟩) (by exact BkAt.bcells (by repeat (first | with_reducible exact KM.out | with_reducible exact KX.out | with_reducible exact BkAt.new0 _ _ | with_reducible exact BkAt.new _ ⟨x.r, x.p, x.s, l2, t + j⟩ _ | with_reducible refine BkAt.store (b := zero) ?_ ⟨x.r, x.p, x.s, l2, t + j⟩ | with_reducible refine BkAt.afar ?_ _ _ _ _ _ (by omega) | with_reducible refine BkAt.alloc ?_ _ | with_reducible refine BkAt.drew ?_ | with_reducible refine BkAt.rolled ?_ (by assumption) (by omega) | with_reducible refine BkAt.call ?_ (by assumption)))) ?_
            rotate_left
            · intro v hv
              obtain ⟨e0, e1, e2, e3, e4⟩ := hv
              go_simp
              try (with_reducible rfl)
            try simp only [Act.put, List.setIfInBounds_toArray, List.set_cons_zero, List.set_cons_succ]
            refine wpAnyH_take (i := 1) (v := ?_) rfl (by kernel_rfl) (by kernel_rfl) (by kernel_rfl) (fun _ _ _ h => h) (Or.inl ⟨by rfl, ?_⟩) (by exact BkAt.bcells (by repeat (first | with_reducible exact KM.out | with_reducible exact KX.out | with_reducible exact BkAt.new0 _ _ | with_reducible exact BkAt.new _ ⟨x.r, x.p, x.s, l2, t + j⟩ _ | with_reducible refine BkAt.store (b := zero) ?_ ⟨x.r, x.p, x.s, l2, t + j⟩ | with_reducible refine BkAt.afar ?_ _ _ _ _ _ (by omega) | with_reducible refine BkAt.alloc ?_ _ | with_reducible refine BkAt.drew ?_ | with_reducible refine BkAt.rolled ?_ (by assumption) (by omega) | with_reducible refine BkAt.call ?_ (by assumption)))) ?_
            rotate_left
            · intro v hv
              clear hv
              go_simp
              try (with_reducible rfl)
            try simp only [Act.put, List.setIfInBounds_toArray, List.set_cons_zero, List.set_cons_succ]
            refine wpAnyH_take (i := 2) (v := ?_) rfl (by kernel_rfl) (by kernel_rfl) (by kernel_rfl) (fun _ _ _ h => h) (Or.inl ⟨by rfl, ?_⟩) (by exact BkAt.bcells (by repeat (first | with_reducible exact KM.out | with_reducible exact KX.out | with_reducible exact BkAt.new0 _ _ | with_reducible exact BkAt.new _ ⟨x.r, x.p, x.s, l2, t + j⟩ _ | with_reducible refine BkAt.store (b := zero) ?_ ⟨x.r, x.p, x.s, l2, t + j⟩ | with_reducible refine BkAt.afar ?_ _ _ _ _ _ (by omega) | with_reducible refine BkAt.alloc ?_ _ | with_reducible refine BkAt.drew ?_ | with_reducible refine BkAt.rolled ?_ (by assumption) (by omega) | with_reducible refine BkAt.call ?_ (by assumption)))) ?_
            rotate_left
            · intro v hv
              obtain ⟨e0, e1, e2, e3, e4⟩ := hv
              go_simp
              try (with_reducible rfl)
            try simp only [Act.put, List.setIfInBounds_toArray, List.set_cons_zero, List.set_cons_succ]
            refine wpAnyH_take (i := 3) (v := ?_) rfl (by kernel_rfl) (by kernel_rfl) (by kernel_rfl) (fun _ _ _ h => h) (Or.inl ⟨by rfl, ?_⟩) (by exact BkAt.bcells (by repeat (first | with_reducible exact KM.out | with_reducible exact KX.out | with_reducible exact BkAt.new0 _ _ | with_reducible exact BkAt.new _ ⟨x.r, x.p, x.s, l2, t + j⟩ _ | with_reducible refine BkAt.store (b := zero) ?_ ⟨x.r, x.p, x.s, l2, t + j⟩ | with_reducible refine BkAt.afar ?_ _ _ _ _ _ (by omega) | with_reducible refine BkAt.alloc ?_ _ | with_reducible refine BkAt.drew ?_ | with_reducible refine BkAt.rolled ?_ (by assumption) (by omega) | with_reducible refine BkAt.call ?_ (by assumption)))) ?_
            rotate_left
            · intro v hv
              clear hv
              go_simp
              try (with_reducible rfl)
            try simp only [Act.put, List.setIfInBounds_toArray, List.set_cons_zero, List.set_cons_succ]
            refine wpAnyH_take (i := 6) (v := ?_) rfl (by kernel_rfl) (by kernel_rfl) (by kernel_rfl) (fun _ _ _ h => h) (Or.inl ⟨by rfl, ?_⟩) (by exact BkAt.bcells (by repeat (first | with_reducible exact KM.out | with_reducible exact KX.out | with_reducible exact BkAt.new0 _ _ | with_reducible exact BkAt.new _ ⟨x.r, x.p, x.s, l2, t + j⟩ _ | with_reducible refine BkAt.store (b := zero) ?_ ⟨x.r, x.p, x.s, l2, t + j⟩ | with_reducible refine BkAt.afar ?_ _ _ _ _ _ (by omega) | with_reducible refine BkAt.alloc ?_ _ | with_reducible refine BkAt.drew ?_ | with_reducible refine BkAt.rolled ?_ (by assumption) (by omega) | with_reducible refine BkAt.call ?_ (by assumption)))) ?_
            rotate_left
            · intro v hv
              clear hv
              go_simp
              try (with_reducible rfl)
            try simp only [Act.put, List.setIfInBounds_toArray, List.set_cons_zero, List.set_cons_succ]
            refine wpAnyH_all (rs := [4, 11]) (by kernel_rfl) (by simp) (fun i hi => ?_)
            simp only [List.mem_cons, List.not_mem_nil, or_false] at hi
            rcases hi with rfl | rfl
            · refine wpOp_step rfl (fun K hK => ?_)
              have HK := Lib.hid hK
              clear hK
              go_simp
              refine (next_any w.heap.size 9 _ (by repeat (first | with_reducible exact DD.out | with_reducible assumption | with_reducible refine DiceAt.set5 ?_ (by omega) _ _ _ _ _ | with_reducible refine DiceAt.alloc ?_ _ | with_reducible refine DiceAt.drew ?_ | with_reducible refine DiceAt.below ?_ (by assumption))) (by omega)).mono ?_
              rintro e w31 ⟨j, j0, j1, rfl, hd31, hr31⟩
              have hz31 : v0.heap.size ≤ w31.heap.size := by have h5 := hr31.size; (try simp only [World.size_alloc] at h5); omega
              have j2 : j < 9 := by omega
              clear j1
              refine HK.out _ _ ⟨by exact BkAt.bcells (by repeat (first | with_reducible exact KM.out | with_reducible exact KX.out | with_reducible exact BkAt.new0 _ _ | with_reducible exact BkAt.new _ ⟨x.r, x.p, x.s, l2, t + j⟩ _ | with_reducible refine BkAt.store (b := zero) ?_ ⟨x.r, x.p, x.s, l2, t + j⟩ | with_reducible refine BkAt.afar ?_ _ _ _ _ _ (by omega) | with_reducible refine BkAt.alloc ?_ _ | with_reducible refine BkAt.drew ?_ | with_reducible refine BkAt.rolled ?_ (by assumption) (by omega) | with_reducible refine BkAt.call ?_ (by assumption))), ?_⟩
              clear HK
              try simp only [Act.put, List.setIfInBounds_toArray, List.set_cons_zero, List.set_cons_succ]
              refine wpAnyH_take (i := 5) (v := ?_) rfl (by kernel_rfl) (by kernel_rfl) (by kernel_rfl) (fun _ _ _ h => h) (Or.inl ⟨by rfl, ?_⟩) (by exact BkAt.bcells (by repeat (first | with_reducible exact KM.out | with_reducible exact KX.out | with_reducible exact BkAt.new0 _ _ | with_reducible exact BkAt.new _ ⟨x.r, x.p, x.s, l2, t + j⟩ _ | with_reducible refine BkAt.store (b := zero) ?_ ⟨x.r, x.p, x.s, l2, t + j⟩ | with_reducible refine BkAt.afar ?_ _ _ _ _ _ (by omega) | with_reducible refine BkAt.alloc ?_ _ | with_reducible refine BkAt.drew ?_ | with_reducible refine BkAt.rolled ?_ (by assumption) (by omega) | with_reducible refine BkAt.call ?_ (by assumption)))) ?_
              rotate_left
              · intro v hv
                clear hv
                go_simp
                try (with_reducible rfl)
              try simp only [Act.put, List.setIfInBounds_toArray, List.set_cons_zero, List.set_cons_succ]
              refine wpAnyH_all (rs := [7, 11]) (by kernel_rfl) (by simp) (fun i hi => ?_)
              simp only [List.mem_cons, List.not_mem_nil, or_false] at hi
              rcases hi with rfl | rfl
              · refine wpOp_step rfl (fun K hK => ?_)
                have HK := Lib.hid hK
                clear hK
                go_simp
                try rw [show IntKind.i64.wrap (t + j) = t + j from IntWalk.i64_in _ (by omega)]
                obtain ⟨l2, e0, hbt, hok2, hcs⟩ := take_bd x.r x.p x.s l t j n HY.out HR.out j0 (by omega) n0 (by omega)
                have HC := Lib.hid hcs
                have HK2 := Lib.hid hok2
                have CT := Lib.hid (fun w => take_any ⟨x.r, x.p, x.s, l, t⟩ (t + j) n w)
                rw [hbt] at CT
                simp only [Bk.v] at CT
                clear hbt hcs hok2
                refine (CT.out _).mono ?_
                clear CT
                rintro e w32 ⟨rfl, hb32⟩
                have hz32 : w31.heap.size ≤ w32.heap.size := by have h5 := hb32.size; (try simp only [World.size_alloc] at h5); omega
                simp only
                refine HK.out _ _ ⟨by exact BkAt.bcells (by repeat (first | with_reducible exact KM.out | with_reducible exact KX.out | with_reducible exact BkAt.new0 _ _ | with_reducible exact BkAt.new _ ⟨x.r, x.p, x.s, l2, t + j⟩ _ | with_reducible refine BkAt.store (b := zero) ?_ ⟨x.r, x.p, x.s, l2, t + j⟩ | with_reducible refine BkAt.afar ?_ _ _ _ _ _ (by omega) | with_reducible refine BkAt.alloc ?_ _ | with_reducible refine BkAt.drew ?_ | with_reducible refine BkAt.rolled ?_ (by assumption) (by omega) | with_reducible refine BkAt.call ?_ (by assumption))), ?_⟩
                clear HK
                try simp only [Act.put, List.setIfInBounds_toArray, List.set_cons_zero, List.set_cons_succ]
                refine wpAnyH_take (i := 8) (v := ?_) rfl (by kernel_rfl) (by kernel_rfl) (by kernel_rfl) (fun _ _ _ h => h) (Or.inl ⟨by rfl, ?_⟩) (by exact BkAt.bcells (by repeat (first | with_reducible exact KM.out | with_reducible exact KX.out | with_reducible exact BkAt.new0 _ _ | with_reducible exact BkAt.new _ ⟨x.r, x.p, x.s, l2, t + j⟩ _ | with_reducible refine BkAt.store (b := zero) ?_ ⟨x.r, x.p, x.s, l2, t + j⟩ | with_reducible refine BkAt.afar ?_ _ _ _ _ _ (by omega) | with_reducible refine BkAt.alloc ?_ _ | with_reducible refine BkAt.drew ?_ | with_reducible refine BkAt.rolled ?_ (by assumption) (by omega) | with_reducible refine BkAt.call ?_ (by assumption)))) ?_
                rotate_left
                · intro v hv
                  clear hv
                  go_simp
                  try (with_reducible rfl)
                try simp only [Act.put, List.setIfInBounds_toArray, List.set_cons_zero, List.set_cons_succ]
                refine wpAnyH_take (i := 9) (v := ?_) rfl (by kernel_rfl) (by kernel_rfl) (by kernel_rfl) (fun _ _ _ h => h) (Or.inl ⟨by rfl, ?_⟩) (by exact BkAt.bcells (by repeat (first | with_reducible exact KM.out | with_reducible exact KX.out | with_reducible exact BkAt.new0 _ _ | with_reducible exact BkAt.new _ ⟨x.r, x.p, x.s, l2, t + j⟩ _ | with_reducible refine BkAt.store (b := zero) ?_ ⟨x.r, x.p, x.s, l2, t + j⟩ | with_reducible refine BkAt.afar ?_ _ _ _ _ _ (by omega) | with_reducible refine BkAt.alloc ?_ _ | with_reducible refine BkAt.drew ?_ | with_reducible refine BkAt.rolled ?_ (by assumption) (by omega) | with_reducible refine BkAt.call ?_ (by assumption)))) ?_
                rotate_left
                · intro v hv
                  clear hv
                  go_simp
                  try (with_reducible rfl)
                try simp only [Act.put, List.setIfInBounds_toArray, List.set_cons_zero, List.set_cons_succ]
                refine wpAnyH_take (i := 10) (v := ?_) rfl (by kernel_rfl) (by kernel_rfl) (by kernel_rfl) (fun _ _ _ h => h) (Or.inl ⟨by rfl, ?_⟩) (by exact BkAt.bcells (by repeat (first | with_reducible exact KM.out | with_reducible exact KX.out | with_reducible exact BkAt.new0 _ _ | with_reducible exact BkAt.new _ ⟨x.r, x.p, x.s, l2, t + j⟩ _ | with_reducible refine BkAt.store (b := zero) ?_ ⟨x.r, x.p, x.s, l2, t + j⟩ | with_reducible refine BkAt.afar ?_ _ _ _ _ _ (by omega) | with_reducible refine BkAt.alloc ?_ _ | with_reducible refine BkAt.drew ?_ | with_reducible refine BkAt.rolled ?_ (by assumption) (by omega) | with_reducible refine BkAt.call ?_ (by assumption)))) ?_
                rotate_left
                · intro v hv
                  clear hv
                  go_simp
                  try (with_reducible rfl)
                try simp only [Act.put, List.setIfInBounds_toArray, List.set_cons_zero, List.set_cons_succ]
                refine wpAnyH_all (rs := [11]) (by kernel_rfl) (by simp) (fun i hi => ?_)
                obtain rfl := List.mem_singleton.1 hi
                clear hi
                refine wpOp_step rfl (fun K hK => ?_)
                have HK := Lib.hid hK
                clear hK
                go_simp

                refine HK.out _ _ ⟨by exact BkAt.bcells (by repeat (first | with_reducible exact KM.out | with_reducible exact KX.out | with_reducible exact BkAt.new0 _ _ | with_reducible exact BkAt.new _ ⟨x.r, x.p, x.s, l2, t + j⟩ _ | with_reducible refine BkAt.store (b := zero) ?_ ⟨x.r, x.p, x.s, l2, t + j⟩ | with_reducible refine BkAt.afar ?_ _ _ _ _ _ (by omega) | with_reducible refine BkAt.alloc ?_ _ | with_reducible refine BkAt.drew ?_ | with_reducible refine BkAt.rolled ?_ (by assumption) (by omega) | with_reducible refine BkAt.call ?_ (by assumption))), ?_⟩
                clear HK
                try simp only [Act.put, List.setIfInBounds_toArray, List.set_cons_zero, List.set_cons_succ]
                refine wpAnyH_all (rs := [12]) (by kernel_rfl) (by simp) (fun i hi => ?_)
                obtain rfl := List.mem_singleton.1 hi
                clear hi
                refine wpOp_step rfl (fun K hK => ?_)
                have HK := Lib.hid hK
                clear hK
                go_simp

                refine HK.out _ _ ⟨by exact BkAt.bcells (by repeat (first | with_reducible exact KM.out | with_reducible exact KX.out | with_reducible exact BkAt.new0 _ _ | with_reducible exact BkAt.new _ ⟨x.r, x.p, x.s, l2, t + j⟩ _ | with_reducible refine BkAt.store (b := zero) ?_ ⟨x.r, x.p, x.s, l2, t + j⟩ | with_reducible refine BkAt.afar ?_ _ _ _ _ _ (by omega) | with_reducible refine BkAt.alloc ?_ _ | with_reducible refine BkAt.drew ?_ | with_reducible refine BkAt.rolled ?_ (by assumption) (by omega) | with_reducible refine BkAt.call ?_ (by assumption))), ?_⟩
                clear HK
                try simp only [Act.put, List.setIfInBounds_toArray, List.set_cons_zero, List.set_cons_succ]
                refine wpAnyH_all (rs := [13]) (by kernel_rfl) (by simp) (fun i hi => ?_)
                obtain rfl := List.mem_singleton.1 hi
                clear hi
                refine wpOp_step rfl (fun K hK => ?_)
                have HK := Lib.hid hK
                clear hK
                go_simp

                refine HK.out _ _ ⟨by exact BkAt.bcells (by repeat (first | with_reducible exact KM.out | with_reducible exact KX.out | with_reducible exact BkAt.new0 _ _ | with_reducible exact BkAt.new _ ⟨x.r, x.p, x.s, l2, t + j⟩ _ | with_reducible refine BkAt.store (b := zero) ?_ ⟨x.r, x.p, x.s, l2, t + j⟩ | with_reducible refine BkAt.afar ?_ _ _ _ _ _ (by omega) | with_reducible refine BkAt.alloc ?_ _ | with_reducible refine BkAt.drew ?_ | with_reducible refine BkAt.rolled ?_ (by assumption) (by omega) | with_reducible refine BkAt.call ?_ (by assumption))), ?_⟩
                clear HK
                try simp only [Act.put, List.setIfInBounds_toArray, List.set_cons_zero, List.set_cons_succ]
                refine wpAnyH_done (by kernel_rfl) ?_ _
                go_wp2_with fail
                go_meet
                case rel =>
                  refine ⟨_, l2, e0, j, j0, j2, HK2.out, HC.out, rfl, rfl, ?_, ?_, ?_, ?_, ?_, ?_⟩
                  rotate_left
                  · exact (show BkAt _ g ⟨x.r, x.p, x.s, l, t⟩ by repeat (first | with_reducible exact KM.out | with_reducible exact KX.out | with_reducible exact BkAt.new0 _ _ | with_reducible exact BkAt.new _ ⟨x.r, x.p, x.s, l2, t + j⟩ _ | with_reducible refine BkAt.store (b := zero) ?_ ⟨x.r, x.p, x.s, l2, t + j⟩ | with_reducible refine BkAt.afar ?_ _ _ _ _ _ (by omega) | with_reducible refine BkAt.alloc ?_ _ | with_reducible refine BkAt.drew ?_ | with_reducible refine BkAt.rolled ?_ (by assumption) (by omega) | with_reducible refine BkAt.call ?_ (by assumption)))
                  · exact (show BkAt _ (g + 1) x by repeat (first | with_reducible exact KM.out | with_reducible exact KX.out | with_reducible exact BkAt.new0 _ _ | with_reducible exact BkAt.new _ ⟨x.r, x.p, x.s, l2, t + j⟩ _ | with_reducible refine BkAt.store (b := zero) ?_ ⟨x.r, x.p, x.s, l2, t + j⟩ | with_reducible refine BkAt.afar ?_ _ _ _ _ _ (by omega) | with_reducible refine BkAt.alloc ?_ _ | with_reducible refine BkAt.drew ?_ | with_reducible refine BkAt.rolled ?_ (by assumption) (by omega) | with_reducible refine BkAt.call ?_ (by assumption)))
                  · exact (show BkAt _ _ ⟨x.r, x.p, x.s, l2, t + j⟩ by repeat (first | with_reducible exact KM.out | with_reducible exact KX.out | with_reducible exact BkAt.new0 _ _ | with_reducible exact BkAt.new _ ⟨x.r, x.p, x.s, l2, t + j⟩ _ | with_reducible refine BkAt.store (b := zero) ?_ ⟨x.r, x.p, x.s, l2, t + j⟩ | with_reducible refine BkAt.afar ?_ _ _ _ _ _ (by omega) | with_reducible refine BkAt.alloc ?_ _ | with_reducible refine BkAt.drew ?_ | with_reducible refine BkAt.rolled ?_ (by assumption) (by omega) | with_reducible refine BkAt.call ?_ (by assumption)))
                  · repeat (first | with_reducible exact DD.out | with_reducible assumption | with_reducible refine DiceAt.set5 ?_ (by omega) _ _ _ _ _ | with_reducible refine DiceAt.alloc ?_ _ | with_reducible refine DiceAt.drew ?_ | with_reducible refine DiceAt.below ?_ (by assumption))
                  · repeat (first | with_reducible exact LM.out | with_reducible refine below_set5 ?_ (by omega) _ _ _ _ _ | with_reducible refine below_al ?_ _ | with_reducible refine Below.drew ?_ | with_reducible refine below_roll ?_ (by assumption) (Nat.le_refl _) | with_reducible refine below_call ?_ (by assumption))
                  · (try simp only [World.size_alloc, World.size_drew] at *); omega
              · refine wpOp_step rfl (fun K hK => ?_)
                have HK := Lib.hid hK
                clear hK
                go_simp

                refine HK.out _ _ ⟨by exact BkAt.bcells (by repeat (first | with_reducible exact KM.out | with_reducible exact KX.out | with_reducible exact BkAt.new0 _ _ | with_reducible exact BkAt.new _ ⟨x.r, x.p, x.s, l2, t + j⟩ _ | with_reducible refine BkAt.store (b := zero) ?_ ⟨x.r, x.p, x.s, l2, t + j⟩ | with_reducible refine BkAt.afar ?_ _ _ _ _ _ (by omega) | with_reducible refine BkAt.alloc ?_ _ | with_reducible refine BkAt.drew ?_ | with_reducible refine BkAt.rolled ?_ (by assumption) (by omega) | with_reducible refine BkAt.call ?_ (by assumption))), ?_⟩
                clear HK
                try simp only [Act.put, List.setIfInBounds_toArray, List.set_cons_zero, List.set_cons_succ]
                refine wpAnyH_all (rs := [7]) (by kernel_rfl) (by simp) (fun i hi => ?_)
                obtain rfl := List.mem_singleton.1 hi
                clear hi
                refine wpOp_step rfl (fun K hK => ?_)
                have HK := Lib.hid hK
                clear hK
                go_simp
                try rw [show IntKind.i64.wrap (t + j) = t + j from IntWalk.i64_in _ (by omega)]
                obtain ⟨l2, e0, hbt, hok2, hcs⟩ := take_bd x.r x.p x.s l t j n HY.out HR.out j0 (by omega) n0 (by omega)
                have HC := Lib.hid hcs
                have HK2 := Lib.hid hok2
                have CT := Lib.hid (fun w => take_any ⟨x.r, x.p, x.s, l, t⟩ (t + j) n w)
                rw [hbt] at CT
                simp only [Bk.v] at CT
                clear hbt hcs hok2
                refine (CT.out _).mono ?_
                clear CT
                rintro e w32 ⟨rfl, hb32⟩
                have hz32 : w31.heap.size ≤ w32.heap.size := by have h5 := hb32.size; (try simp only [World.size_alloc] at h5); omega
                simp only
                refine HK.out _ _ ⟨by exact BkAt.bcells (by repeat (first | with_reducible exact KM.out | with_reducible exact KX.out | with_reducible exact BkAt.new0 _ _ | with_reducible exact BkAt.new _ ⟨x.r, x.p, x.s, l2, t + j⟩ _ | with_reducible refine BkAt.store (b := zero) ?_ ⟨x.r, x.p, x.s, l2, t + j⟩ | with_reducible refine BkAt.afar ?_ _ _ _ _ _ (by omega) | with_reducible refine BkAt.alloc ?_ _ | with_reducible refine BkAt.drew ?_ | with_reducible refine BkAt.rolled ?_ (by assumption) (by omega) | with_reducible refine BkAt.call ?_ (by assumption))), ?_⟩
                clear HK
                try simp only [Act.put, List.setIfInBounds_toArray, List.set_cons_zero, List.set_cons_succ]
                refine wpAnyH_take (i := 8) (v := ?_) rfl (by kernel_rfl) (by kernel_rfl) (by kernel_rfl) (fun _ _ _ h => h) (Or.inl ⟨by rfl, ?_⟩) (by exact BkAt.bcells (by repeat (first | with_reducible exact KM.out | with_reducible exact KX.out | with_reducible exact BkAt.new0 _ _ | with_reducible exact BkAt.new _ ⟨x.r, x.p, x.s, l2, t + j⟩ _ | with_reducible refine BkAt.store (b := zero) ?_ ⟨x.r, x.p, x.s, l2, t + j⟩ | with_reducible refine BkAt.afar ?_ _ _ _ _ _ (by omega) | with_reducible refine BkAt.alloc ?_ _ | with_reducible refine BkAt.drew ?_ | with_reducible refine BkAt.rolled ?_ (by assumption) (by omega) | with_reducible refine BkAt.call ?_ (by assumption)))) ?_
                rotate_left
                · intro v hv
                  clear hv
                  go_simp
                  try (with_reducible rfl)
                try simp only [Act.put, List.setIfInBounds_toArray, List.set_cons_zero, List.set_cons_succ]
                refine wpAnyH_take (i := 9) (v := ?_) rfl (by kernel_rfl) (by kernel_rfl) (by kernel_rfl) (fun _ _ _ h => h) (Or.inl ⟨by rfl, ?_⟩) (by exact BkAt.bcells (by repeat (first | with_reducible exact KM.out | with_reducible exact KX.out | with_reducible exact BkAt.new0 _ _ | with_reducible exact BkAt.new _ ⟨x.r, x.p, x.s, l2, t + j⟩ _ | with_reducible refine BkAt.store (b := zero) ?_ ⟨x.r, x.p, x.s, l2, t + j⟩ | with_reducible refine BkAt.afar ?_ _ _ _ _ _ (by omega) | with_reducible refine BkAt.alloc ?_ _ | with_reducible refine BkAt.drew ?_ | with_reducible refine BkAt.rolled ?_ (by assumption) (by omega) | with_reducible refine BkAt.call ?_ (by assumption)))) ?_
                rotate_left
                · intro v hv
                  clear hv
                  go_simp
                  try (with_reducible rfl)
                try simp only [Act.put, List.setIfInBounds_toArray, List.set_cons_zero, List.set_cons_succ]
                refine wpAnyH_take (i := 10) (v := ?_) rfl (by kernel_rfl) (by kernel_rfl) (by kernel_rfl) (fun _ _ _ h => h) (Or.inl ⟨by rfl, ?_⟩) (by exact BkAt.bcells (by repeat (first | with_reducible exact KM.out | with_reducible exact KX.out | with_reducible exact BkAt.new0 _ _ | with_reducible exact BkAt.new _ ⟨x.r, x.p, x.s, l2, t + j⟩ _ | with_reducible refine BkAt.store (b := zero) ?_ ⟨x.r, x.p, x.s, l2, t + j⟩ | with_reducible refine BkAt.afar ?_ _ _ _ _ _ (by omega) | with_reducible refine BkAt.alloc ?_ _ | with_reducible refine BkAt.drew ?_ | with_reducible refine BkAt.rolled ?_ (by assumption) (by omega) | with_reducible refine BkAt.call ?_ (by assumption)))) ?_
                rotate_left
                · intro v hv
                  clear hv
                  go_simp
                  try (with_reducible rfl)
                try simp only [Act.put, List.setIfInBounds_toArray, List.set_cons_zero, List.set_cons_succ]
                refine wpAnyH_all (rs := [12]) (by kernel_rfl) (by simp) (fun i hi => ?_)
                obtain rfl := List.mem_singleton.1 hi
                clear hi
                have Zb : BkAt w32 (w31.heap.size) zero := by repeat (first | with_reducible exact KM.out | with_reducible exact KX.out | with_reducible exact BkAt.new0 _ _ | with_reducible exact BkAt.new _ ⟨x.r, x.p, x.s, l2, t + j⟩ _ | with_reducible refine BkAt.store (b := zero) ?_ ⟨x.r, x.p, x.s, l2, t + j⟩ | with_reducible refine BkAt.afar ?_ _ _ _ _ _ (by omega) | with_reducible refine BkAt.alloc ?_ _ | with_reducible refine BkAt.drew ?_ | with_reducible refine BkAt.rolled ?_ (by assumption) (by omega) | with_reducible refine BkAt.call ?_ (by assumption))
                obtain ⟨z_0, z_1, z_2, z_3, z_4, z_f0, z_f1, z_f2, z_f3, z_f4, z_l⟩ := Zb
                refine wpOp_step rfl (fun K hK => ?_)
                have HK := Lib.hid hK
                clear hK
                go_simp
                clear z_0 z_1 z_2 z_3 z_4 z_f0 z_f1 z_f2 z_f3 z_f4 z_l
                refine HK.out _ _ ⟨by exact BkAt.bcells (by repeat (first | with_reducible exact KM.out | with_reducible exact KX.out | with_reducible exact BkAt.new0 _ _ | with_reducible exact BkAt.new _ ⟨x.r, x.p, x.s, l2, t + j⟩ _ | with_reducible refine BkAt.store (b := zero) ?_ ⟨x.r, x.p, x.s, l2, t + j⟩ | with_reducible refine BkAt.afar ?_ _ _ _ _ _ (by omega) | with_reducible refine BkAt.alloc ?_ _ | with_reducible refine BkAt.drew ?_ | with_reducible refine BkAt.rolled ?_ (by assumption) (by omega) | with_reducible refine BkAt.call ?_ (by assumption))), ?_⟩
                clear HK
                try simp only [Act.put, List.setIfInBounds_toArray, List.set_cons_zero, List.set_cons_succ]
                refine wpAnyH_all (rs := [13]) (by kernel_rfl) (by simp) (fun i hi => ?_)
                obtain rfl := List.mem_singleton.1 hi
                clear hi
                refine wpOp_step rfl (fun K hK => ?_)
                have HK := Lib.hid hK
                clear hK
                go_simp

                refine HK.out _ _ ⟨by exact BkAt.bcells (by repeat (first | with_reducible exact KM.out | with_reducible exact KX.out | with_reducible exact BkAt.new0 _ _ | with_reducible exact BkAt.new _ ⟨x.r, x.p, x.s, l2, t + j⟩ _ | with_reducible refine BkAt.store (b := zero) ?_ ⟨x.r, x.p, x.s, l2, t + j⟩ | with_reducible refine BkAt.afar ?_ _ _ _ _ _ (by omega) | with_reducible refine BkAt.alloc ?_ _ | with_reducible refine BkAt.drew ?_ | with_reducible refine BkAt.rolled ?_ (by assumption) (by omega) | with_reducible refine BkAt.call ?_ (by assumption))), ?_⟩
                clear HK
                try simp only [Act.put, List.setIfInBounds_toArray, List.set_cons_zero, List.set_cons_succ]
                refine wpAnyH_done (by kernel_rfl) ?_ _
                go_wp2_with fail
                go_meet
                case rel =>
                  refine ⟨_, l2, e0, j, j0, j2, HK2.out, HC.out, rfl, rfl, ?_, ?_, ?_, ?_, ?_, ?_⟩
                  rotate_left
                  · exact (show BkAt _ g ⟨x.r, x.p, x.s, l, t⟩ by repeat (first | with_reducible exact KM.out | with_reducible exact KX.out | with_reducible exact BkAt.new0 _ _ | with_reducible exact BkAt.new _ ⟨x.r, x.p, x.s, l2, t + j⟩ _ | with_reducible refine BkAt.store (b := zero) ?_ ⟨x.r, x.p, x.s, l2, t + j⟩ | with_reducible refine BkAt.afar ?_ _ _ _ _ _ (by omega) | with_reducible refine BkAt.alloc ?_ _ | with_reducible refine BkAt.drew ?_ | with_reducible refine BkAt.rolled ?_ (by assumption) (by omega) | with_reducible refine BkAt.call ?_ (by assumption)))
                  · exact (show BkAt _ (g + 1) x by repeat (first | with_reducible exact KM.out | with_reducible exact KX.out | with_reducible exact BkAt.new0 _ _ | with_reducible exact BkAt.new _ ⟨x.r, x.p, x.s, l2, t + j⟩ _ | with_reducible refine BkAt.store (b := zero) ?_ ⟨x.r, x.p, x.s, l2, t + j⟩ | with_reducible refine BkAt.afar ?_ _ _ _ _ _ (by omega) | with_reducible refine BkAt.alloc ?_ _ | with_reducible refine BkAt.drew ?_ | with_reducible refine BkAt.rolled ?_ (by assumption) (by omega) | with_reducible refine BkAt.call ?_ (by assumption)))
                  · exact (show BkAt _ _ ⟨x.r, x.p, x.s, l2, t + j⟩ by repeat (first | with_reducible exact KM.out | with_reducible exact KX.out | with_reducible exact BkAt.new0 _ _ | with_reducible exact BkAt.new _ ⟨x.r, x.p, x.s, l2, t + j⟩ _ | with_reducible refine BkAt.store (b := zero) ?_ ⟨x.r, x.p, x.s, l2, t + j⟩ | with_reducible refine BkAt.afar ?_ _ _ _ _ _ (by omega) | with_reducible refine BkAt.alloc ?_ _ | with_reducible refine BkAt.drew ?_ | with_reducible refine BkAt.rolled ?_ (by assumption) (by omega) | with_reducible refine BkAt.call ?_ (by assumption)))
                  · repeat (first | with_reducible exact DD.out | with_reducible assumption | with_reducible refine DiceAt.set5 ?_ (by omega) _ _ _ _ _ | with_reducible refine DiceAt.alloc ?_ _ | with_reducible refine DiceAt.drew ?_ | with_reducible refine DiceAt.below ?_ (by assumption))
                  · repeat (first | with_reducible exact LM.out | with_reducible refine below_set5 ?_ (by omega) _ _ _ _ _ | with_reducible refine below_al ?_ _ | with_reducible refine Below.drew ?_ | with_reducible refine below_roll ?_ (by assumption) (Nat.le_refl _) | with_reducible refine below_call ?_ (by assumption))
                  · (try simp only [World.size_alloc, World.size_drew] at *); omega
            · refine wpOp_step rfl (fun K hK => ?_)
              have HK := Lib.hid hK
              clear hK
              go_simp

              refine HK.out _ _ ⟨by exact BkAt.bcells (by repeat (first | with_reducible exact KM.out | with_reducible exact KX.out | with_reducible exact BkAt.new0 _ _ | with_reducible exact BkAt.new _ ⟨x.r, x.p, x.s, l2, t + j⟩ _ | with_reducible refine BkAt.store (b := zero) ?_ ⟨x.r, x.p, x.s, l2, t + j⟩ | with_reducible refine BkAt.afar ?_ _ _ _ _ _ (by omega) | with_reducible refine BkAt.alloc ?_ _ | with_reducible refine BkAt.drew ?_ | with_reducible refine BkAt.rolled ?_ (by assumption) (by omega) | with_reducible refine BkAt.call ?_ (by assumption))), ?_⟩
              clear HK
              try simp only [Act.put, List.setIfInBounds_toArray, List.set_cons_zero, List.set_cons_succ]
              refine wpAnyH_all (rs := [4]) (by kernel_rfl) (by simp) (fun i hi => ?_)
              obtain rfl := List.mem_singleton.1 hi
              clear hi
              refine wpOp_step rfl (fun K hK => ?_)
              have HK := Lib.hid hK
              clear hK
              go_simp
              refine (next_any w.heap.size 9 _ (by repeat (first | with_reducible exact DD.out | with_reducible assumption | with_reducible refine DiceAt.set5 ?_ (by omega) _ _ _ _ _ | with_reducible refine DiceAt.alloc ?_ _ | with_reducible refine DiceAt.drew ?_ | with_reducible refine DiceAt.below ?_ (by assumption))) (by omega)).mono ?_
              rintro e w31 ⟨j, j0, j1, rfl, hd31, hr31⟩
              have hz31 : v0.heap.size ≤ w31.heap.size := by have h5 := hr31.size; (try simp only [World.size_alloc] at h5); omega
              have j2 : j < 9 := by omega
              clear j1
              refine HK.out _ _ ⟨by exact BkAt.bcells (by repeat (first | with_reducible exact KM.out | with_reducible exact KX.out | with_reducible exact BkAt.new0 _ _ | with_reducible exact BkAt.new _ ⟨x.r, x.p, x.s, l2, t + j⟩ _ | with_reducible refine BkAt.store (b := zero) ?_ ⟨x.r, x.p, x.s, l2, t + j⟩ | with_reducible refine BkAt.afar ?_ _ _ _ _ _ (by omega) | with_reducible refine BkAt.alloc ?_ _ | with_reducible refine BkAt.drew ?_ | with_reducible refine BkAt.rolled ?_ (by assumption) (by omega) | with_reducible refine BkAt.call ?_ (by assumption))), ?_⟩
              clear HK
              try simp only [Act.put, List.setIfInBounds_toArray, List.set_cons_zero, List.set_cons_succ]
              refine wpAnyH_take (i := 5) (v := ?_) rfl (by kernel_rfl) (by kernel_rfl) (by kernel_rfl) (fun _ _ _ h => h) (Or.inl ⟨by rfl, ?_⟩) (by exact BkAt.bcells (by repeat (first | with_reducible exact KM.out | with_reducible exact KX.out | with_reducible exact BkAt.new0 _ _ | with_reducible exact BkAt.new _ ⟨x.r, x.p, x.s, l2, t + j⟩ _ | with_reducible refine BkAt.store (b := zero) ?_ ⟨x.r, x.p, x.s, l2, t + j⟩ | with_reducible refine BkAt.afar ?_ _ _ _ _ _ (by omega) | with_reducible refine BkAt.alloc ?_ _ | with_reducible refine BkAt.drew ?_ | with_reducible refine BkAt.rolled ?_ (by assumption) (by omega) | with_reducible refine BkAt.call ?_ (by assumption)))) ?_
              rotate_left
              · intro v hv
                clear hv
                go_simp
                try (with_reducible rfl)
              try simp only [Act.put, List.setIfInBounds_toArray, List.set_cons_zero, List.set_cons_succ]
              refine wpAnyH_all (rs := [7]) (by kernel_rfl) (by simp) (fun i hi => ?_)
              obtain rfl := List.mem_singleton.1 hi
              clear hi
              refine wpOp_step rfl (fun K hK => ?_)
              have HK := Lib.hid hK
              clear hK
              go_simp
              try rw [show IntKind.i64.wrap (t + j) = t + j from IntWalk.i64_in _ (by omega)]
              obtain ⟨l2, e0, hbt, hok2, hcs⟩ := take_bd x.r x.p x.s l t j n HY.out HR.out j0 (by omega) n0 (by omega)
              have HC := Lib.hid hcs
              have HK2 := Lib.hid hok2
              have CT := Lib.hid (fun w => take_any ⟨x.r, x.p, x.s, l, t⟩ (t + j) n w)
              rw [hbt] at CT
              simp only [Bk.v] at CT
              clear hbt hcs hok2
              refine (CT.out _).mono ?_
              clear CT
              rintro e w32 ⟨rfl, hb32⟩
              have hz32 : w31.heap.size ≤ w32.heap.size := by have h5 := hb32.size; (try simp only [World.size_alloc] at h5); omega
              simp only
              refine HK.out _ _ ⟨by exact BkAt.bcells (by repeat (first | with_reducible exact KM.out | with_reducible exact KX.out | with_reducible exact BkAt.new0 _ _ | with_reducible exact BkAt.new _ ⟨x.r, x.p, x.s, l2, t + j⟩ _ | with_reducible refine BkAt.store (b := zero) ?_ ⟨x.r, x.p, x.s, l2, t + j⟩ | with_reducible refine BkAt.afar ?_ _ _ _ _ _ (by omega) | with_reducible refine BkAt.alloc ?_ _ | with_reducible refine BkAt.drew ?_ | with_reducible refine BkAt.rolled ?_ (by assumption) (by omega) | with_reducible refine BkAt.call ?_ (by assumption))), ?_⟩
              clear HK
              try simp only [Act.put, List.setIfInBounds_toArray, List.set_cons_zero, List.set_cons_succ]
              refine wpAnyH_take (i := 8) (v := ?_) rfl (by kernel_rfl) (by kernel_rfl) (by kernel_rfl) (fun _ _ _ h => h) (Or.inl ⟨by rfl, ?_⟩) (by exact BkAt.bcells (by repeat (first | with_reducible exact KM.out | with_reducible exact KX.out | with_reducible exact BkAt.new0 _ _ | with_reducible exact BkAt.new _ ⟨x.r, x.p, x.s, l2, t + j⟩ _ | with_reducible refine BkAt.store (b := zero) ?_ ⟨x.r, x.p, x.s, l2, t + j⟩ | with_reducible refine BkAt.afar ?_ _ _ _ _ _ (by omega) | with_reducible refine BkAt.alloc ?_ _ | with_reducible refine BkAt.drew ?_ | with_reducible refine BkAt.rolled ?_ (by assumption) (by omega) | with_reducible refine BkAt.call ?_ (by assumption)))) ?_
              rotate_left
              · intro v hv
                clear hv
                go_simp
                try (with_reducible rfl)
              try simp only [Act.put, List.setIfInBounds_toArray, List.set_cons_zero, List.set_cons_succ]
              refine wpAnyH_take (i := 9) (v := ?_) rfl (by kernel_rfl) (by kernel_rfl) (by kernel_rfl) (fun _ _ _ h => h) (Or.inl ⟨by rfl, ?_⟩) (by exact BkAt.bcells (by repeat (first | with_reducible exact KM.out | with_reducible exact KX.out | with_reducible exact BkAt.new0 _ _ | with_reducible exact BkAt.new _ ⟨x.r, x.p, x.s, l2, t + j⟩ _ | with_reducible refine BkAt.store (b := zero) ?_ ⟨x.r, x.p, x.s, l2, t + j⟩ | with_reducible refine BkAt.afar ?_ _ _ _ _ _ (by omega) | with_reducible refine BkAt.alloc ?_ _ | with_reducible refine BkAt.drew ?_ | with_reducible refine BkAt.rolled ?_ (by assumption) (by omega) | with_reducible refine BkAt.call ?_ (by assumption)))) ?_
              rotate_left
              · intro v hv
                clear hv
                go_simp
                try (with_reducible rfl)
              try simp only [Act.put, List.setIfInBounds_toArray, List.set_cons_zero, List.set_cons_succ]
              refine wpAnyH_take (i := 10) (v := ?_) rfl (by kernel_rfl) (by kernel_rfl) (by kernel_rfl) (fun _ _ _ h => h) (Or.inl ⟨by rfl, ?_⟩) (by exact BkAt.bcells (by repeat (first | with_reducible exact KM.out | with_reducible exact KX.out | with_reducible exact BkAt.new0 _ _ | with_reducible exact BkAt.new _ ⟨x.r, x.p, x.s, l2, t + j⟩ _ | with_reducible refine BkAt.store (b := zero) ?_ ⟨x.r, x.p, x.s, l2, t + j⟩ | with_reducible refine BkAt.afar ?_ _ _ _ _ _ (by omega) | with_reducible refine BkAt.alloc ?_ _ | with_reducible refine BkAt.drew ?_ | with_reducible refine BkAt.rolled ?_ (by assumption) (by omega) | with_reducible refine BkAt.call ?_ (by assumption)))) ?_
              rotate_left
              · intro v hv
                clear hv
                go_simp
                try (with_reducible rfl)
              try simp only [Act.put, List.setIfInBounds_toArray, List.set_cons_zero, List.set_cons_succ]
              refine wpAnyH_all (rs := [12]) (by kernel_rfl) (by simp) (fun i hi => ?_)
              obtain rfl := List.mem_singleton.1 hi
              clear hi
              have Zb : BkAt w32 (v0.heap.size) zero := by repeat (first | with_reducible exact KM.out | with_reducible exact KX.out | with_reducible exact BkAt.new0 _ _ | with_reducible exact BkAt.new _ ⟨x.r, x.p, x.s, l2, t + j⟩ _ | with_reducible refine BkAt.store (b := zero) ?_ ⟨x.r, x.p, x.s, l2, t + j⟩ | with_reducible refine BkAt.afar ?_ _ _ _ _ _ (by omega) | with_reducible refine BkAt.alloc ?_ _ | with_reducible refine BkAt.drew ?_ | with_reducible refine BkAt.rolled ?_ (by assumption) (by omega) | with_reducible refine BkAt.call ?_ (by assumption))
              obtain ⟨z_0, z_1, z_2, z_3, z_4, z_f0, z_f1, z_f2, z_f3, z_f4, z_l⟩ := Zb
              refine wpOp_step rfl (fun K hK => ?_)
              have HK := Lib.hid hK
              clear hK
              go_simp
              clear z_0 z_1 z_2 z_3 z_4 z_f0 z_f1 z_f2 z_f3 z_f4 z_l
              refine HK.out _ _ ⟨by exact BkAt.bcells (by repeat (first | with_reducible exact KM.out | with_reducible exact KX.out | with_reducible exact BkAt.new0 _ _ | with_reducible exact BkAt.new _ ⟨x.r, x.p, x.s, l2, t + j⟩ _ | with_reducible refine BkAt.store (b := zero) ?_ ⟨x.r, x.p, x.s, l2, t + j⟩ | with_reducible refine BkAt.afar ?_ _ _ _ _ _ (by omega) | with_reducible refine BkAt.alloc ?_ _ | with_reducible refine BkAt.drew ?_ | with_reducible refine BkAt.rolled ?_ (by assumption) (by omega) | with_reducible refine BkAt.call ?_ (by assumption))), ?_⟩
              clear HK
              try simp only [Act.put, List.setIfInBounds_toArray, List.set_cons_zero, List.set_cons_succ]
              refine wpAnyH_all (rs := [13]) (by kernel_rfl) (by simp) (fun i hi => ?_)
              obtain rfl := List.mem_singleton.1 hi
              clear hi
              refine wpOp_step rfl (fun K hK => ?_)
              have HK := Lib.hid hK
              clear hK
              go_simp

              refine HK.out _ _ ⟨by exact BkAt.bcells (by repeat (first | with_reducible exact KM.out | with_reducible exact KX.out | with_reducible exact BkAt.new0 _ _ | with_reducible exact BkAt.new _ ⟨x.r, x.p, x.s, l2, t + j⟩ _ | with_reducible refine BkAt.store (b := zero) ?_ ⟨x.r, x.p, x.s, l2, t + j⟩ | with_reducible refine BkAt.afar ?_ _ _ _ _ _ (by omega) | with_reducible refine BkAt.alloc ?_ _ | with_reducible refine BkAt.drew ?_ | with_reducible refine BkAt.rolled ?_ (by assumption) (by omega) | with_reducible refine BkAt.call ?_ (by assumption))), ?_⟩
              clear HK
              try simp only [Act.put, List.setIfInBounds_toArray, List.set_cons_zero, List.set_cons_succ]
              refine wpAnyH_done (by kernel_rfl) ?_ _
              go_wp2_with fail
              go_meet
              case rel =>
                refine ⟨_, l2, e0, j, j0, j2, HK2.out, HC.out, rfl, rfl, ?_, ?_, ?_, ?_, ?_, ?_⟩
                rotate_left
                · exact (show BkAt _ g ⟨x.r, x.p, x.s, l, t⟩ by repeat (first | with_reducible exact KM.out | with_reducible exact KX.out | with_reducible exact BkAt.new0 _ _ | with_reducible exact BkAt.new _ ⟨x.r, x.p, x.s, l2, t + j⟩ _ | with_reducible refine BkAt.store (b := zero) ?_ ⟨x.r, x.p, x.s, l2, t + j⟩ | with_reducible refine BkAt.afar ?_ _ _ _ _ _ (by omega) | with_reducible refine BkAt.alloc ?_ _ | with_reducible refine BkAt.drew ?_ | with_reducible refine BkAt.rolled ?_ (by assumption) (by omega) | with_reducible refine BkAt.call ?_ (by assumption)))
                · exact (show BkAt _ (g + 1) x by repeat (first | with_reducible exact KM.out | with_reducible exact KX.out | with_reducible exact BkAt.new0 _ _ | with_reducible exact BkAt.new _ ⟨x.r, x.p, x.s, l2, t + j⟩ _ | with_reducible refine BkAt.store (b := zero) ?_ ⟨x.r, x.p, x.s, l2, t + j⟩ | with_reducible refine BkAt.afar ?_ _ _ _ _ _ (by omega) | with_reducible refine BkAt.alloc ?_ _ | with_reducible refine BkAt.drew ?_ | with_reducible refine BkAt.rolled ?_ (by assumption) (by omega) | with_reducible refine BkAt.call ?_ (by assumption)))
                · exact (show BkAt _ _ ⟨x.r, x.p, x.s, l2, t + j⟩ by repeat (first | with_reducible exact KM.out | with_reducible exact KX.out | with_reducible exact BkAt.new0 _ _ | with_reducible exact BkAt.new _ ⟨x.r, x.p, x.s, l2, t + j⟩ _ | with_reducible refine BkAt.store (b := zero) ?_ ⟨x.r, x.p, x.s, l2, t + j⟩ | with_reducible refine BkAt.afar ?_ _ _ _ _ _ (by omega) | with_reducible refine BkAt.alloc ?_ _ | with_reducible refine BkAt.drew ?_ | with_reducible refine BkAt.rolled ?_ (by assumption) (by omega) | with_reducible refine BkAt.call ?_ (by assumption)))
                · repeat (first | with_reducible exact DD.out | with_reducible assumption | with_reducible refine DiceAt.set5 ?_ (by omega) _ _ _ _ _ | with_reducible refine DiceAt.alloc ?_ _ | with_reducible refine DiceAt.drew ?_ | with_reducible refine DiceAt.below ?_ (by assumption))
                · repeat (first | with_reducible exact LM.out | with_reducible refine below_set5 ?_ (by omega) _ _ _ _ _ | with_reducible refine below_al ?_ _ | with_reducible refine Below.drew ?_ | with_reducible refine below_roll ?_ (by assumption) (Nat.le_refl _) | with_reducible refine below_call ?_ (by assumption))
                · (try simp only [World.size_alloc, World.size_drew] at *); omega
          case rest =>
          clear k_0 k_1 k_2 k_3 k_4 k_f0 k_f1 k_f2 k_f3 k_f4 k_l
          clear x_0 x_1 x_2 x_3 x_4 x_f0 x_f1 x_f2 x_f3 x_f4 x_l
          clear K X HB HD
          obtain ⟨h, l2, e0, j, j0, j2, hok2, hcs, rfl, rfl, hgh, K, X, Z, HD, HB⟩ := hcut
          have K := Lib.hid K
          have X := Lib.hid X
          have Z := Lib.hid Z
          have HD := Lib.hid HD
          have HB := Lib.hid HB
          have HK2 := Lib.hid hok2
          have HCS := Lib.hid hcs
          clear hok2 hcs
          generalize wc = w12 at *
          rcases HCS.out with ⟨rfl, hc⟩ | ⟨rfl, hc⟩
          · clear HCS
            have HCS := Lib.hid hc
            clear hc
            obtain ⟨k_0, k_1, k_2, k_3, k_4, k_f0, k_f1, k_f2, k_f3, k_f4, k_l⟩ := K.out
            obtain ⟨x_0, x_1, x_2, x_3, x_4, x_f0, x_f1, x_f2, x_f3, x_f4, x_l⟩ := X.out
            obtain ⟨z_0, z_1, z_2, z_3, z_4, z_f0, z_f1, z_f2, z_f3, z_f4, z_l⟩ := Z.out
            go_upto_region 17 with fail
            go_cut [] from 24 to 84 (fun wx => BkAt wx g ⟨x.r, x.p, x.s, l2, t + j⟩ ∧ BkAt wx (g + 1) x ∧ DiceAt wx w.heap.size ∧ Below w.heap.size w wx)
            case first =>
              go_wp2_with fail
              go_meet
              case rel => exact ⟨K.out.store ⟨x.r, x.p, x.s, l2, t + j⟩, X.out.afar _ _ _ _ _ (by omega), HD.out.set5 (by omega) _ _ _ _ _, below_set5 HB.out (by omega) _ _ _ _ _⟩
            case rest =>
            clear k_0 k_1 k_2 k_3 k_4 k_f0 k_f1 k_f2 k_f3 k_f4 k_l
            clear x_0 x_1 x_2 x_3 x_4 x_f0 x_f1 x_f2 x_f3 x_f4 x_l
            clear z_0 z_1 z_2 z_3 z_4 z_f0 z_f1 z_f2 z_f3 z_f4 z_l
            clear K X Z HB HD
            obtain ⟨K, X, HD, HB⟩ := hcut
            have K := Lib.hid K
            have X := Lib.hid X
            have HD := Lib.hid HD
            have HB := Lib.hid HB
            generalize wc = w13 at *
            have CV := Lib.hid (fun w => valid_yes ⟨x.r, x.p, x.s, l2, t + j⟩ w HK2.out)
            have CK := Lib.hid (fun w => tok_any ⟨x.r, x.p, x.s, l2, t + j⟩ w)
            simp only [Bk.v] at CV CK
            obtain ⟨q, hq⟩ : ∃ q, (m + n) * x.p = q := ⟨_, rfl⟩
            obtain ⟨z, hz⟩ : ∃ z, x.r * (t + j - x.t) = z := ⟨_, rfl⟩
            obtain ⟨z1, z0, z2, q0, q2⟩ : q ≤ x.l + z ∧ 0 ≤ z ∧ z ≤ 1125899906842624 ∧ 0 ≤ q ∧ q ≤ 1125899906842624 := by
              have := bounds_a x l t m n j l2 HO.out HR.out HI.out x3 j0 j2 (by omega) n0 (by omega) HK2.out HCS.out
              rw [hq, hz] at this
              exact this
            have o4 : 0 ≤ x.l := by obtain ⟨o1, o2, o3, o4, o5, o6, o7, o8, o9, o10, o11⟩ := ok_shut x HO.out HR.out; exact o9
            have o5 : x.l ≤ 1125899906842624 := lev_bd x HO.out HR.out
            have hg9 : decide (x.l + z < q) = false := by simp; omega
            have tj0 : 0 ≤ t + j - x.t := by have := HI.out.2.1; omega
            have tb : t + j ≤ 1048576 := HK2.out.2.2.2.1
            obtain ⟨k_0, k_1, k_2, k_3, k_4, k_f0, k_f1, k_f2, k_f3, k_f4, k_l⟩ := K.out
            obtain ⟨x_0, x_1, x_2, x_3, x_4, x_f0, x_f1, x_f2, x_f3, x_f4, x_l⟩ := X.out
            go_wp2_with fail
            refine (CV.out _).mono ?_
            rintro e w14 ⟨rfl, hb14⟩
            clear k_0 k_1 k_2 k_3 k_4 k_f0 k_f1 k_f2 k_f3 k_f4 k_l
            clear x_0 x_1 x_2 x_3 x_4 x_f0 x_f1 x_f2 x_f3 x_f4 x_l
            have Kn : Hid (BkAt w14 g ⟨x.r, x.p, x.s, l2, t + j⟩) := Lib.hid (BkAt.call (by repeat (first | with_reducible exact K.out | with_reducible refine BkAt.alloc ?_ _ | with_reducible refine BkAt.drew ?_)) hb14)
            have Xn : Hid (BkAt w14 (g + 1) x) := Lib.hid (BkAt.call (by repeat (first | with_reducible exact X.out | with_reducible refine BkAt.alloc ?_ _ | with_reducible refine BkAt.drew ?_)) hb14)
            have HBn : Hid (Below w.heap.size w w14) := Lib.hid (below_call (by repeat (first | with_reducible exact HB.out | with_reducible refine below_al ?_ _ | with_reducible refine Below.drew ?_)) hb14)
            have HDn : Hid (DiceAt w14 w.heap.size) := Lib.hid (DiceAt.below (by repeat (first | with_reducible exact HD.out | with_reducible refine DiceAt.alloc ?_ _ | with_reducible refine DiceAt.drew ?_)) hb14)
            clear K
            have K := Kn
            clear Kn
            clear X
            have X := Xn
            clear Xn
            clear HB
            have HB := HBn
            clear HBn
            clear HD
            have HD := HDn
            clear HDn
            clear hb14
            obtain ⟨k_0, k_1, k_2, k_3, k_4, k_f0, k_f1, k_f2, k_f3, k_f4, k_l⟩ := K.out
            obtain ⟨x_0, x_1, x_2, x_3, x_4, x_f0, x_f1, x_f2, x_f3, x_f4, x_l⟩ := X.out
            go_wp2
            go_roundw
            case rel =>
              refine ⟨k + 1, l2, t + j, (m + n), by omega, by go_num, rfl, HK2.out, ?_, K.out, X.out, HD.out, HB.out⟩
              exact inv_a x l t m n j l2 k HI.out j0 n0 (by omega) HCS.out
            case measure => simp [intOf]; omega
          · clear HCS
            have HCS := Lib.hid hc
            clear hc
            obtain ⟨k_0, k_1, k_2, k_3, k_4, k_f0, k_f1, k_f2, k_f3, k_f4, k_l⟩ := K.out
            obtain ⟨x_0, x_1, x_2, x_3, x_4, x_f0, x_f1, x_f2, x_f3, x_f4, x_l⟩ := X.out
            obtain ⟨z_0, z_1, z_2, z_3, z_4, z_f0, z_f1, z_f2, z_f3, z_f4, z_l⟩ := Z.out
            go_upto_region 17 with fail
            go_cut [] from 24 to 84 (fun wx => BkAt wx g ⟨x.r, x.p, x.s, l2, t + j⟩ ∧ BkAt wx (g + 1) x ∧ DiceAt wx w.heap.size ∧ Below w.heap.size w wx)
            case first =>
              go_wp2_with fail
              go_meet
              case rel => exact ⟨K.out.store ⟨x.r, x.p, x.s, l2, t + j⟩, X.out.afar _ _ _ _ _ (by omega), HD.out.set5 (by omega) _ _ _ _ _, below_set5 HB.out (by omega) _ _ _ _ _⟩
            case rest =>
            clear k_0 k_1 k_2 k_3 k_4 k_f0 k_f1 k_f2 k_f3 k_f4 k_l
            clear x_0 x_1 x_2 x_3 x_4 x_f0 x_f1 x_f2 x_f3 x_f4 x_l
            clear z_0 z_1 z_2 z_3 z_4 z_f0 z_f1 z_f2 z_f3 z_f4 z_l
            clear K X Z HB HD
            obtain ⟨K, X, HD, HB⟩ := hcut
            have K := Lib.hid K
            have X := Lib.hid X
            have HD := Lib.hid HD
            have HB := Lib.hid HB
            generalize wc = w13 at *
            have CV := Lib.hid (fun w => valid_yes ⟨x.r, x.p, x.s, l2, t + j⟩ w HK2.out)
            have CK := Lib.hid (fun w => tok_any ⟨x.r, x.p, x.s, l2, t + j⟩ w)
            simp only [Bk.v] at CV CK
            obtain ⟨q, hq⟩ : ∃ q, m * x.p = q := ⟨_, rfl⟩
            obtain ⟨z, hz⟩ : ∃ z, x.r * (t + j - x.t) = z := ⟨_, rfl⟩
            obtain ⟨z1, z0, z2, q0, q2⟩ : q ≤ x.l + z ∧ 0 ≤ z ∧ z ≤ 1125899906842624 ∧ 0 ≤ q ∧ q ≤ 1125899906842624 := by
              have := bounds_b x l t m n j l2 HO.out HR.out HI.out x3 j0 j2 (by omega) n0 (by omega) HK2.out HCS.out
              rw [hq, hz] at this
              exact this
            have o4 : 0 ≤ x.l := by obtain ⟨o1, o2, o3, o4, o5, o6, o7, o8, o9, o10, o11⟩ := ok_shut x HO.out HR.out; exact o9
            have o5 : x.l ≤ 1125899906842624 := lev_bd x HO.out HR.out
            have hg9 : decide (x.l + z < q) = false := by simp; omega
            have tj0 : 0 ≤ t + j - x.t := by have := HI.out.2.1; omega
            have tb : t + j ≤ 1048576 := HK2.out.2.2.2.1
            obtain ⟨tk, htk⟩ : ∃ tk, btok ⟨x.r, x.p, x.s, l2, t + j⟩ = tk := ⟨_, rfl⟩
            rw [htk] at CK
            have hlt : tk < n := by rw [← htk]; exact HCS.out.2
            clear htk
            obtain ⟨k_0, k_1, k_2, k_3, k_4, k_f0, k_f1, k_f2, k_f3, k_f4, k_l⟩ := K.out
            obtain ⟨x_0, x_1, x_2, x_3, x_4, x_f0, x_f1, x_f2, x_f3, x_f4, x_l⟩ := X.out
            go_wp2_with fail
            refine (CV.out _).mono ?_
            rintro e w14 ⟨rfl, hb14⟩
            clear k_0 k_1 k_2 k_3 k_4 k_f0 k_f1 k_f2 k_f3 k_f4 k_l
            clear x_0 x_1 x_2 x_3 x_4 x_f0 x_f1 x_f2 x_f3 x_f4 x_l
            have Kn : Hid (BkAt w14 g ⟨x.r, x.p, x.s, l2, t + j⟩) := Lib.hid (BkAt.call (by repeat (first | with_reducible exact K.out | with_reducible refine BkAt.alloc ?_ _ | with_reducible refine BkAt.drew ?_)) hb14)
            have Xn : Hid (BkAt w14 (g + 1) x) := Lib.hid (BkAt.call (by repeat (first | with_reducible exact X.out | with_reducible refine BkAt.alloc ?_ _ | with_reducible refine BkAt.drew ?_)) hb14)
            have HBn : Hid (Below w.heap.size w w14) := Lib.hid (below_call (by repeat (first | with_reducible exact HB.out | with_reducible refine below_al ?_ _ | with_reducible refine Below.drew ?_)) hb14)
            have HDn : Hid (DiceAt w14 w.heap.size) := Lib.hid (DiceAt.below (by repeat (first | with_reducible exact HD.out | with_reducible refine DiceAt.alloc ?_ _ | with_reducible refine DiceAt.drew ?_)) hb14)
            clear K
            have K := Kn
            clear Kn
            clear X
            have X := Xn
            clear Xn
            clear HB
            have HB := HBn
            clear HBn
            clear HD
            have HD := HDn
            clear HDn
            clear hb14
            obtain ⟨k_0, k_1, k_2, k_3, k_4, k_f0, k_f1, k_f2, k_f3, k_f4, k_l⟩ := K.out
            obtain ⟨x_0, x_1, x_2, x_3, x_4, x_f0, x_f1, x_f2, x_f3, x_f4, x_l⟩ := X.out
            go_wp2_with fail
            refine (CK.out _).mono ?_
            rintro e w15 ⟨rfl, hb15⟩
            clear k_0 k_1 k_2 k_3 k_4 k_f0 k_f1 k_f2 k_f3 k_f4 k_l
            clear x_0 x_1 x_2 x_3 x_4 x_f0 x_f1 x_f2 x_f3 x_f4 x_l
            have Kn : Hid (BkAt w15 g ⟨x.r, x.p, x.s, l2, t + j⟩) := Lib.hid (BkAt.call (by repeat (first | with_reducible exact K.out | with_reducible refine BkAt.alloc ?_ _ | with_reducible refine BkAt.drew ?_)) hb15)
            have Xn : Hid (BkAt w15 (g + 1) x) := Lib.hid (BkAt.call (by repeat (first | with_reducible exact X.out | with_reducible refine BkAt.alloc ?_ _ | with_reducible refine BkAt.drew ?_)) hb15)
            have HBn : Hid (Below w.heap.size w w15) := Lib.hid (below_call (by repeat (first | with_reducible exact HB.out | with_reducible refine below_al ?_ _ | with_reducible refine Below.drew ?_)) hb15)
            have HDn : Hid (DiceAt w15 w.heap.size) := Lib.hid (DiceAt.below (by repeat (first | with_reducible exact HD.out | with_reducible refine DiceAt.alloc ?_ _ | with_reducible refine DiceAt.drew ?_)) hb15)
            clear K
            have K := Kn
            clear Kn
            clear X
            have X := Xn
            clear Xn
            clear HB
            have HB := HBn
            clear HBn
            clear HD
            have HD := HDn
            clear HDn
            clear hb15
            obtain ⟨k_0, k_1, k_2, k_3, k_4, k_f0, k_f1, k_f2, k_f3, k_f4, k_l⟩ := K.out
            obtain ⟨x_0, x_1, x_2, x_3, x_4, x_f0, x_f1, x_f2, x_f3, x_f4, x_l⟩ := X.out
            go_wp2
            go_roundw
            case rel =>
              refine ⟨k + 1, l2, t + j, m, by omega, by go_num, rfl, HK2.out, ?_, K.out, X.out, HD.out, HB.out⟩
              exact inv_b x l t m n j l2 k HI.out j0 n0 (by omega) HCS.out
            case measure => simp [intOf]; omega
        · have ht3 : decide (t < 1048566) = false := by simp; omega
          generalize wr = w10 at *
          obtain ⟨k_0, k_1, k_2, k_3, k_4, k_f0, k_f1, k_f2, k_f3, k_f4, k_l⟩ := K.out
          obtain ⟨x_0, x_1, x_2, x_3, x_4, x_f0, x_f1, x_f2, x_f3, x_f4, x_l⟩ := X.out
          go_wp2_with fail
          refine (bsane _).mono ?_
          rintro e w11 ⟨rfl, hb11⟩
          clear k_0 k_1 k_2 k_3 k_4 k_f0 k_f1 k_f2 k_f3 k_f4 k_l
          clear x_0 x_1 x_2 x_3 x_4 x_f0 x_f1 x_f2 x_f3 x_f4 x_l
          have Kn : Hid (BkAt w11 g ⟨x.r, x.p, x.s, l, t⟩) := Lib.hid (BkAt.call (by repeat (first | with_reducible exact K.out | with_reducible refine BkAt.alloc ?_ _ | with_reducible refine BkAt.drew ?_)) hb11)
          have Xn : Hid (BkAt w11 (g + 1) x) := Lib.hid (BkAt.call (by repeat (first | with_reducible exact X.out | with_reducible refine BkAt.alloc ?_ _ | with_reducible refine BkAt.drew ?_)) hb11)
          have HBn : Hid (Below w.heap.size w w11) := Lib.hid (below_call (by repeat (first | with_reducible exact HB.out | with_reducible refine below_al ?_ _ | with_reducible refine Below.drew ?_)) hb11)
          clear K
          have K := Kn
          clear Kn
          clear X
          have X := Xn
          clear Xn
          clear HB
          have HB := HBn
          clear HBn
          clear hb11
          obtain ⟨k_0, k_1, k_2, k_3, k_4, k_f0, k_f1, k_f2, k_f3, k_f4, k_l⟩ := K.out
          obtain ⟨x_0, x_1, x_2, x_3, x_4, x_f0, x_f1, x_f2, x_f3, x_f4, x_l⟩ := X.out
          go_wp2
          go_ret
          exact ⟨rfl, HB.out⟩
      · skip
        generalize wr = w10 at *
        obtain ⟨k_0, k_1, k_2, k_3, k_4, k_f0, k_f1, k_f2, k_f3, k_f4, k_l⟩ := K.out
        obtain ⟨x_0, x_1, x_2, x_3, x_4, x_f0, x_f1, x_f2, x_f3, x_f4, x_l⟩ := X.out
        go_wp2_with fail
        refine (bsane _).mono ?_
        rintro e w11 ⟨rfl, hb11⟩
        clear k_0 k_1 k_2 k_3 k_4 k_f0 k_f1 k_f2 k_f3 k_f4 k_l
        clear x_0 x_1 x_2 x_3 x_4 x_f0 x_f1 x_f2 x_f3 x_f4 x_l
        have Kn : Hid (BkAt w11 g ⟨x.r, x.p, x.s, l, t⟩) := Lib.hid (BkAt.call (by repeat (first | with_reducible exact K.out | with_reducible refine BkAt.alloc ?_ _ | with_reducible refine BkAt.drew ?_)) hb11)
        have Xn : Hid (BkAt w11 (g + 1) x) := Lib.hid (BkAt.call (by repeat (first | with_reducible exact X.out | with_reducible refine BkAt.alloc ?_ _ | with_reducible refine BkAt.drew ?_)) hb11)
        have HBn : Hid (Below w.heap.size w w11) := Lib.hid (below_call (by repeat (first | with_reducible exact HB.out | with_reducible refine below_al ?_ _ | with_reducible refine Below.drew ?_)) hb11)
        clear K
        have K := Kn
        clear Kn
        clear X
        have X := Xn
        clear Xn
        clear HB
        have HB := HBn
        clear HBn
        clear hb11
        obtain ⟨k_0, k_1, k_2, k_3, k_4, k_f0, k_f1, k_f2, k_f3, k_f4, k_l⟩ := K.out
        obtain ⟨x_0, x_1, x_2, x_3, x_4, x_f0, x_f1, x_f2, x_f3, x_f4, x_l⟩ := X.out
        go_wp2
        go_ret
        exact ⟨rfl, HB.out⟩

set_option maxHeartbeats 400000 in
theorem bbounds_heavy (a0 : Option Addr) (len0 cap0 : Nat) (w : World) (hheavy : ¬ len0 ≤ 600) :
    Calls Try.prog 4 #[.slice a0 len0 cap0] w fun e w' => e = .returned (.bool true) ∧ Below w.heap.size w w' := by
  have hd : decide (len0 ≤ 600) = false := by simpa using hheavy
  have HL := Lib.hid (light_any a0 len0 cap0 w)
  rw [hd] at HL
  clear hd
  go_enter Try.func4, Try.ntmps4
  go_wp2_with fail
  refine HL.out.mono ?_
  rintro e w' ⟨rfl, rfl⟩
  go_wp2_with fail
  refine (bsane _).mono ?_
  rintro e w5 ⟨rfl, h5⟩
  go_wp2
  go_ret
  exact ⟨rfl, h5⟩
end Go.Proofs.Ytcfkmkabjalgjac
