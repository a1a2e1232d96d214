/- Contracts of Change. -/
import Derived.Test.YtcfkmkabjalgjacWk
namespace Go.Proofs.Ytcfkmkabjalgjac
open Go.RowKit
set_option linter.unusedVariables false
set_option linter.unusedSimpArgs false

theorem bnew_ok (r p s t : Int) (m : Bk) (h : bnew r p s t = (m, 0)) : Ok m ∧ m.r = r ∧ m.p = p ∧ m.t = t ∧ 1 ≤ p ∧ p ≤ 1048576 ∧ 0 ≤ m.s ∧ m.s ≤ 1073741824 ∧ (r = 4611686018427387904 → m.s = 0 ∧ m.l = 0) ∧ (¬ r = 4611686018427387904 → m.s = s) := by
  unfold bnew at h
  by_cases hr : r = 4611686018427387904
  · simp only [if_pos hr] at h
    by_cases hk : Ok ⟨r, p, 0, 0, t⟩
    · rw [if_pos hk] at h
      cases h
      have h2 := hk
      unfold Ok at h2
      simp only [if_pos hr] at h2
      rw [Int.zero_mul]
      exact ⟨hk, rfl, rfl, rfl, h2.1, h2.2.1, by simp, by simp, fun _ => ⟨rfl, rfl⟩, fun hh => absurd hr hh⟩
    · rw [if_neg hk] at h; cases h
  · simp only [if_neg hr] at h
    by_cases hk : Ok ⟨r, p, s, 0, t⟩
    · rw [if_pos hk] at h
      cases h
      have h2 := hk
      unfold Ok at h2
      simp only [if_neg hr] at h2
      refine ⟨(ok_level r p s t h2.1 h2.2.2.2.2.2.2.1 hr).2 hk, rfl, rfl, rfl, h2.1, h2.2.1, h2.2.2.2.2.2.2.1, h2.2.2.2.2.2.2.2.1, fun hh => absurd hh hr, fun _ => rfl⟩
    · rw [if_neg hk] at h; cases h

set_option maxHeartbeats 8000000 in
theorem chg_any (b : Bk) (r p s t : Int) (w : World) :
    Calls Try.prog 20 #[b.v, .int .i64 r, .int .i64 p, .int .i64 s, .int .i64 t] w fun e w' => e = .returned (.tuple #[(bchg b r p s t).1.v, .int .i64 (bchg b r p s t).2]) ∧ Below w.heap.size w w' := by
  obtain ⟨c, e0, hce⟩ : ∃ c e0, badv b t = (c, e0) := ⟨_, _, rfl⟩
  have HA := Lib.hid (fun w => adv_any b t w)
  rw [hce] at HA
  simp only at HA
  obtain ⟨m, e1, hne⟩ : ∃ m e1, bnew r p s t = (m, e1) := ⟨_, _, rfl⟩
  have HN := Lib.hid (fun w => new_any r p s t w)
  rw [hne] at HN
  simp only at HN
  by_cases he : e0 = 0
  · subst he
    by_cases he1 : e1 = 0
    · subst he1
      obtain ⟨n1, n2, n3, n4, p1, p2, s1, s2, n9, n10⟩ := bnew_ok r p s t m hne
      obtain ⟨k1, k2⟩ := btok_bd c
      by_cases hr : c.r = 4611686018427387904
      · have hrb : (c.r == 4611686018427387904) = true := by simp [hr]
        have HO := Lib.hid (fun w => open_any c w)
        rw [hrb] at HO
        have HT := Lib.hid (fun w => tok_any c w)
        obtain ⟨k, hk⟩ : ∃ k, btok c = k := ⟨_, rfl⟩
        rw [hk] at HT k1 k2
        have HF := Lib.hid (show bchg b r p s t = ({ m with l := 0 }, 0) by unfold bchg; rw [hce, hne]; simp only; rw [if_neg (by simp), if_neg (by simp)]; rw [if_pos hr, if_neg (by omega), Int.zero_mul])
        clear hce hne n1 n2 n3 n4 n9 n10 hr hrb hk
        unfold Bk.v at *
        go_enter Try.func20, Try.ntmps20
        go_upto_region 1 with fail
        go_cut [12] (fun v12 wx => v12 = .int .i64 0 ∧ BkAt wx w.heap.size c ∧ BkAt wx (w.heap.size + 1) zero ∧ Below w.heap.size w wx)
        case first =>
          go_wp2_with fail
          refine (HA.out _).mono ?_
          rintro e w1 ⟨rfl, hb1⟩
          have k0 : BkAt w1 w.heap.size b := ((BkAt.new w b 24).alloc _).below hb1 (by simp; omega)
          have k1 : BkAt w1 (w.heap.size + 1) zero := by
            have := BkAt.new (w.alloc (.cells #[.int .i64 b.r, .int .i64 b.p, .int .i64 b.s, .int .i64 b.l, .int .i64 b.t] 24)) zero 24
            rw [show (w.alloc (.cells #[.int .i64 b.r, .int .i64 b.p, .int .i64 b.s, .int .i64 b.l, .int .i64 b.t] 24)).heap.size = w.heap.size + 1 by simp] at this
            exact this.below hb1 (by first | (simp; done) | (simp; omega))
          have hB : Below w.heap.size w w1 := Below.trans (by go_grown) (hb1.mono (by first | omega | (simp; done) | (simp; omega)))
          have K0 := Lib.hid k0
          have K1 := Lib.hid k1
          clear hb1
          obtain ⟨c0, c1, c2, c3, c4, f0, f1, f2, f3, f4, lt0⟩ := k0
          obtain ⟨d0, d1, d2, d3, d4, j0, j1, j2, j3, j4, lt1⟩ := k1
          go_wp2_with fail
          go_meet
          case rel => exact ⟨rfl, K0.out.store c, K1.out.afar _ _ _ _ _ (by omega), by go_grown⟩
        case rest =>
        obtain ⟨rfl, k0, k1, hB⟩ := hcut
        have K0 := Lib.hid k0
        have K1 := Lib.hid k1
        have HB := Lib.hid hB
        clear hB k0 k1
        obtain ⟨k0_0, k0_1, k0_2, k0_3, k0_4, k0_f0, k0_f1, k0_f2, k0_f3, k0_f4, k0_l⟩ := K0.out
        obtain ⟨k1_0, k1_1, k1_2, k1_3, k1_4, k1_f0, k1_f1, k1_f2, k1_f3, k1_f4, k1_l⟩ := K1.out
        go_wp2_with fail
        refine (HN.out _).mono ?_
        rintro e w2 ⟨rfl, hb2⟩
        clear k0_0 k0_1 k0_2 k0_3 k0_4 k0_f0 k0_f1 k0_f2 k0_f3 k0_f4 k0_l
        clear k1_0 k1_1 k1_2 k1_3 k1_4 k1_f0 k1_f1 k1_f2 k1_f3 k1_f4 k1_l
        have K0n : Hid (BkAt w2 w.heap.size c) := Lib.hid (BkAt.call (by repeat (first | exact K0.out | refine BkAt.alloc ?_ _ | refine BkAt.drew ?_ | exact BkAt.new _ _ _)) hb2)
        have K1n : Hid (BkAt w2 (w.heap.size + 1) zero) := Lib.hid (BkAt.call (by repeat (first | exact K1.out | refine BkAt.alloc ?_ _ | refine BkAt.drew ?_ | exact BkAt.new _ _ _)) hb2)
        have HBn : Hid (Below w.heap.size w w2) := Lib.hid (below_call (by repeat (first | exact HB.out | refine below_al ?_ _ | refine Below.drew ?_)) hb2)
        clear K0
        have K0 := K0n
        clear K0n
        clear K1
        have K1 := K1n
        clear K1n
        clear HB
        have HB := HBn
        clear HBn
        clear hb2
        obtain ⟨k0_0, k0_1, k0_2, k0_3, k0_4, k0_f0, k0_f1, k0_f2, k0_f3, k0_f4, k0_l⟩ := K0.out
        obtain ⟨k1_0, k1_1, k1_2, k1_3, k1_4, k1_f0, k1_f1, k1_f2, k1_f3, k1_f4, k1_l⟩ := K1.out
        have hh2 : w.heap.size + 1 < w2.heap.size := k1_l
        go_wp2_with fail
        refine (HT.out _).mono ?_
        rintro e w3 ⟨rfl, hb3⟩
        clear k0_0 k0_1 k0_2 k0_3 k0_4 k0_f0 k0_f1 k0_f2 k0_f3 k0_f4 k0_l
        clear k1_0 k1_1 k1_2 k1_3 k1_4 k1_f0 k1_f1 k1_f2 k1_f3 k1_f4 k1_l
        have K0n : Hid (BkAt w3 w.heap.size c) := Lib.hid (BkAt.call (by repeat (first | exact K0.out | refine BkAt.alloc ?_ _ | refine BkAt.drew ?_ | exact BkAt.new _ _ _)) hb3)
        have K1n : Hid (BkAt w3 (w.heap.size + 1) zero) := Lib.hid (BkAt.call (by repeat (first | exact K1.out | refine BkAt.alloc ?_ _ | refine BkAt.drew ?_ | exact BkAt.new _ _ _)) hb3)
        have K2n : Hid (BkAt w3 w2.heap.size m) := Lib.hid (BkAt.call (by repeat (first | exact BkAt.new _ _ _ | refine BkAt.alloc ?_ _ | refine BkAt.drew ?_)) hb3)
        have HBn : Hid (Below w.heap.size w w3) := Lib.hid (below_call (by repeat (first | exact HB.out | refine below_al ?_ _ | refine Below.drew ?_)) hb3)
        clear K0
        have K0 := K0n
        clear K0n
        clear K1
        have K1 := K1n
        clear K1n
        have K2 := K2n
        clear K2n
        clear HB
        have HB := HBn
        clear HBn
        clear hb3
        obtain ⟨k0_0, k0_1, k0_2, k0_3, k0_4, k0_f0, k0_f1, k0_f2, k0_f3, k0_f4, k0_l⟩ := K0.out
        obtain ⟨k1_0, k1_1, k1_2, k1_3, k1_4, k1_f0, k1_f1, k1_f2, k1_f3, k1_f4, k1_l⟩ := K1.out
        obtain ⟨k2_0, k2_1, k2_2, k2_3, k2_4, k2_f0, k2_f1, k2_f2, k2_f3, k2_f4, k2_l⟩ := K2.out
        go_wp2_with fail
        refine (HO.out _).mono ?_
        rintro e w4 ⟨rfl, hb4⟩
        clear k0_0 k0_1 k0_2 k0_3 k0_4 k0_f0 k0_f1 k0_f2 k0_f3 k0_f4 k0_l
        clear k1_0 k1_1 k1_2 k1_3 k1_4 k1_f0 k1_f1 k1_f2 k1_f3 k1_f4 k1_l
        clear k2_0 k2_1 k2_2 k2_3 k2_4 k2_f0 k2_f1 k2_f2 k2_f3 k2_f4 k2_l
        have K0n : Hid (BkAt w4 w.heap.size c) := Lib.hid (BkAt.call (by repeat (first | exact K0.out | refine BkAt.alloc ?_ _ | refine BkAt.drew ?_ | exact BkAt.new _ _ _)) hb4)
        have K1n : Hid (BkAt w4 (w.heap.size + 1) zero) := Lib.hid (BkAt.call (by repeat (first | exact K1.out | refine BkAt.alloc ?_ _ | refine BkAt.drew ?_ | exact BkAt.new _ _ _)) hb4)
        have K2n : Hid (BkAt w4 w2.heap.size m) := Lib.hid (BkAt.call (by repeat (first | exact K2.out | refine BkAt.alloc ?_ _ | refine BkAt.drew ?_ | exact BkAt.new _ _ _)) hb4)
        have HBn : Hid (Below w.heap.size w w4) := Lib.hid (below_call (by repeat (first | exact HB.out | refine below_al ?_ _ | refine Below.drew ?_)) hb4)
        clear K0
        have K0 := K0n
        clear K0n
        clear K1
        have K1 := K1n
        clear K1n
        clear K2
        have K2 := K2n
        clear K2n
        clear HB
        have HB := HBn
        clear HBn
        clear hb4
        obtain ⟨k0_0, k0_1, k0_2, k0_3, k0_4, k0_f0, k0_f1, k0_f2, k0_f3, k0_f4, k0_l⟩ := K0.out
        obtain ⟨k1_0, k1_1, k1_2, k1_3, k1_4, k1_f0, k1_f1, k1_f2, k1_f3, k1_f4, k1_l⟩ := K1.out
        obtain ⟨k2_0, k2_1, k2_2, k2_3, k2_4, k2_f0, k2_f1, k2_f2, k2_f3, k2_f4, k2_l⟩ := K2.out
        go_upto_region 10 with fail
        go_cut [] (fun wx => BkAt wx w.heap.size c ∧ BkAt wx (w.heap.size + 1) zero ∧ BkAt wx w2.heap.size { m with l := 0 } ∧ Below w.heap.size w wx)
        case first =>
          go_wp2_with fail
          go_meet
          case rel => exact ⟨K0.out.far _ (by omega), K1.out.far _ (by omega), K2.out.set3 _, HB.out.setCell (by simp; omega) _⟩
        case rest =>
        clear k0_0 k0_1 k0_2 k0_3 k0_4 k0_f0 k0_f1 k0_f2 k0_f3 k0_f4 k0_l
        clear k1_0 k1_1 k1_2 k1_3 k1_4 k1_f0 k1_f1 k1_f2 k1_f3 k1_f4 k1_l
        clear k2_0 k2_1 k2_2 k2_3 k2_4 k2_f0 k2_f1 k2_f2 k2_f3 k2_f4 k2_l
        clear K0 K1 K2 HB
        obtain ⟨K0, K1, K2, HB⟩ := hcut
        have K0 := Lib.hid K0
        have K1 := Lib.hid K1
        have K2 := Lib.hid K2
        have HB := Lib.hid HB
        obtain ⟨k0_0, k0_1, k0_2, k0_3, k0_4, k0_f0, k0_f1, k0_f2, k0_f3, k0_f4, k0_l⟩ := K0.out
        obtain ⟨k1_0, k1_1, k1_2, k1_3, k1_4, k1_f0, k1_f1, k1_f2, k1_f3, k1_f4, k1_l⟩ := K1.out
        obtain ⟨k2_0, k2_1, k2_2, k2_3, k2_4, k2_f0, k2_f1, k2_f2, k2_f3, k2_f4, k2_l⟩ := K2.out
        simp only at k2_0 k2_1 k2_2 k2_3 k2_4
        have hB := HB.out
        go_wp2
        rw [HF.out]
        refine bodyPost_ret (v := .tuple #[.agg #[.int .i64 m.r, .int .i64 m.p, .int .i64 m.s, .int .i64 0, .int .i64 m.t], .int .i64 0]) (by simp [results, Try.results20, go_sem, k1_0, k1_1, k1_2, k1_3, k1_4, k1_l]) rfl ?_
        exact ⟨rfl, by go_grown⟩
      · have hrb : (c.r == 4611686018427387904) = false := by simp [hr]
        have HO := Lib.hid (fun w => open_any c w)
        rw [hrb] at HO
        have HT := Lib.hid (fun w => tok_any c w)
        obtain ⟨k, hk⟩ : ∃ k, btok c = k := ⟨_, rfl⟩
        rw [hk] at HT k1 k2
        by_cases hm : m.s < k
        · have HF := Lib.hid (show bchg b r p s t = ({ m with l := m.s * p }, 0) by unfold bchg; rw [hce, hne]; simp only; rw [if_neg (by simp), if_neg (by simp)]; rw [if_neg hr, hk, if_pos hm])
          obtain ⟨m0, m1⟩ := mul_bd (a := m.s) (A := 1073741824) (by omega) (by omega) (show 0 ≤ p by omega) p2
          obtain ⟨y, hy⟩ : ∃ y, m.s * p = y := ⟨_, rfl⟩
          rw [hy] at m0 m1 HF
          have m2 : y ≤ 1125899906842624 := by omega
          clear hce hne n1 n2 n3 n4 n9 n10 hr hrb hk m1
          unfold Bk.v at *
          go_enter Try.func20, Try.ntmps20
          go_upto_region 1 with fail
          go_cut [12] (fun v12 wx => v12 = .int .i64 0 ∧ BkAt wx w.heap.size c ∧ BkAt wx (w.heap.size + 1) zero ∧ Below w.heap.size w wx)
          case first =>
            go_wp2_with fail
            refine (HA.out _).mono ?_
            rintro e w1 ⟨rfl, hb1⟩
            have k0 : BkAt w1 w.heap.size b := ((BkAt.new w b 24).alloc _).below hb1 (by simp; omega)
            have k1 : BkAt w1 (w.heap.size + 1) zero := by
              have := BkAt.new (w.alloc (.cells #[.int .i64 b.r, .int .i64 b.p, .int .i64 b.s, .int .i64 b.l, .int .i64 b.t] 24)) zero 24
              rw [show (w.alloc (.cells #[.int .i64 b.r, .int .i64 b.p, .int .i64 b.s, .int .i64 b.l, .int .i64 b.t] 24)).heap.size = w.heap.size + 1 by simp] at this
              exact this.below hb1 (by first | (simp; done) | (simp; omega))
            have hB : Below w.heap.size w w1 := Below.trans (by go_grown) (hb1.mono (by first | omega | (simp; done) | (simp; omega)))
            have K0 := Lib.hid k0
            have K1 := Lib.hid k1
            clear hb1
            obtain ⟨c0, c1, c2, c3, c4, f0, f1, f2, f3, f4, lt0⟩ := k0
            obtain ⟨d0, d1, d2, d3, d4, j0, j1, j2, j3, j4, lt1⟩ := k1
            go_wp2_with fail
            go_meet
            case rel => exact ⟨rfl, K0.out.store c, K1.out.afar _ _ _ _ _ (by omega), by go_grown⟩
          case rest =>
          obtain ⟨rfl, k0, k1, hB⟩ := hcut
          have K0 := Lib.hid k0
          have K1 := Lib.hid k1
          have HB := Lib.hid hB
          clear hB k0 k1
          obtain ⟨k0_0, k0_1, k0_2, k0_3, k0_4, k0_f0, k0_f1, k0_f2, k0_f3, k0_f4, k0_l⟩ := K0.out
          obtain ⟨k1_0, k1_1, k1_2, k1_3, k1_4, k1_f0, k1_f1, k1_f2, k1_f3, k1_f4, k1_l⟩ := K1.out
          go_wp2_with fail
          refine (HN.out _).mono ?_
          rintro e w2 ⟨rfl, hb2⟩
          clear k0_0 k0_1 k0_2 k0_3 k0_4 k0_f0 k0_f1 k0_f2 k0_f3 k0_f4 k0_l
          clear k1_0 k1_1 k1_2 k1_3 k1_4 k1_f0 k1_f1 k1_f2 k1_f3 k1_f4 k1_l
          have K0n : Hid (BkAt w2 w.heap.size c) := Lib.hid (BkAt.call (by repeat (first | exact K0.out | refine BkAt.alloc ?_ _ | refine BkAt.drew ?_ | exact BkAt.new _ _ _)) hb2)
          have K1n : Hid (BkAt w2 (w.heap.size + 1) zero) := Lib.hid (BkAt.call (by repeat (first | exact K1.out | refine BkAt.alloc ?_ _ | refine BkAt.drew ?_ | exact BkAt.new _ _ _)) hb2)
          have HBn : Hid (Below w.heap.size w w2) := Lib.hid (below_call (by repeat (first | exact HB.out | refine below_al ?_ _ | refine Below.drew ?_)) hb2)
          clear K0
          have K0 := K0n
          clear K0n
          clear K1
          have K1 := K1n
          clear K1n
          clear HB
          have HB := HBn
          clear HBn
          clear hb2
          obtain ⟨k0_0, k0_1, k0_2, k0_3, k0_4, k0_f0, k0_f1, k0_f2, k0_f3, k0_f4, k0_l⟩ := K0.out
          obtain ⟨k1_0, k1_1, k1_2, k1_3, k1_4, k1_f0, k1_f1, k1_f2, k1_f3, k1_f4, k1_l⟩ := K1.out
          have hh2 : w.heap.size + 1 < w2.heap.size := k1_l
          go_wp2_with fail
          refine (HT.out _).mono ?_
          rintro e w3 ⟨rfl, hb3⟩
          clear k0_0 k0_1 k0_2 k0_3 k0_4 k0_f0 k0_f1 k0_f2 k0_f3 k0_f4 k0_l
          clear k1_0 k1_1 k1_2 k1_3 k1_4 k1_f0 k1_f1 k1_f2 k1_f3 k1_f4 k1_l
          have K0n : Hid (BkAt w3 w.heap.size c) := Lib.hid (BkAt.call (by repeat (first | exact K0.out | refine BkAt.alloc ?_ _ | refine BkAt.drew ?_ | exact BkAt.new _ _ _)) hb3)
          have K1n : Hid (BkAt w3 (w.heap.size + 1) zero) := Lib.hid (BkAt.call (by repeat (first | exact K1.out | refine BkAt.alloc ?_ _ | refine BkAt.drew ?_ | exact BkAt.new _ _ _)) hb3)
          have K2n : Hid (BkAt w3 w2.heap.size m) := Lib.hid (BkAt.call (by repeat (first | exact BkAt.new _ _ _ | refine BkAt.alloc ?_ _ | refine BkAt.drew ?_)) hb3)
          have HBn : Hid (Below w.heap.size w w3) := Lib.hid (below_call (by repeat (first | exact HB.out | refine below_al ?_ _ | refine Below.drew ?_)) hb3)
          clear K0
          have K0 := K0n
          clear K0n
          clear K1
          have K1 := K1n
          clear K1n
          have K2 := K2n
          clear K2n
          clear HB
          have HB := HBn
          clear HBn
          clear hb3
          obtain ⟨k0_0, k0_1, k0_2, k0_3, k0_4, k0_f0, k0_f1, k0_f2, k0_f3, k0_f4, k0_l⟩ := K0.out
          obtain ⟨k1_0, k1_1, k1_2, k1_3, k1_4, k1_f0, k1_f1, k1_f2, k1_f3, k1_f4, k1_l⟩ := K1.out
          obtain ⟨k2_0, k2_1, k2_2, k2_3, k2_4, k2_f0, k2_f1, k2_f2, k2_f3, k2_f4, k2_l⟩ := K2.out
          go_wp2_with fail
          refine (HO.out _).mono ?_
          rintro e w4 ⟨rfl, hb4⟩
          clear k0_0 k0_1 k0_2 k0_3 k0_4 k0_f0 k0_f1 k0_f2 k0_f3 k0_f4 k0_l
          clear k1_0 k1_1 k1_2 k1_3 k1_4 k1_f0 k1_f1 k1_f2 k1_f3 k1_f4 k1_l
          clear k2_0 k2_1 k2_2 k2_3 k2_4 k2_f0 k2_f1 k2_f2 k2_f3 k2_f4 k2_l
          have K0n : Hid (BkAt w4 w.heap.size c) := Lib.hid (BkAt.call (by repeat (first | exact K0.out | refine BkAt.alloc ?_ _ | refine BkAt.drew ?_ | exact BkAt.new _ _ _)) hb4)
          have K1n : Hid (BkAt w4 (w.heap.size + 1) zero) := Lib.hid (BkAt.call (by repeat (first | exact K1.out | refine BkAt.alloc ?_ _ | refine BkAt.drew ?_ | exact BkAt.new _ _ _)) hb4)
          have K2n : Hid (BkAt w4 w2.heap.size m) := Lib.hid (BkAt.call (by repeat (first | exact K2.out | refine BkAt.alloc ?_ _ | refine BkAt.drew ?_ | exact BkAt.new _ _ _)) hb4)
          have HBn : Hid (Below w.heap.size w w4) := Lib.hid (below_call (by repeat (first | exact HB.out | refine below_al ?_ _ | refine Below.drew ?_)) hb4)
          clear K0
          have K0 := K0n
          clear K0n
          clear K1
          have K1 := K1n
          clear K1n
          clear K2
          have K2 := K2n
          clear K2n
          clear HB
          have HB := HBn
          clear HBn
          clear hb4
          obtain ⟨k0_0, k0_1, k0_2, k0_3, k0_4, k0_f0, k0_f1, k0_f2, k0_f3, k0_f4, k0_l⟩ := K0.out
          obtain ⟨k1_0, k1_1, k1_2, k1_3, k1_4, k1_f0, k1_f1, k1_f2, k1_f3, k1_f4, k1_l⟩ := K1.out
          obtain ⟨k2_0, k2_1, k2_2, k2_3, k2_4, k2_f0, k2_f1, k2_f2, k2_f3, k2_f4, k2_l⟩ := K2.out
          go_upto_region 10 with fail
          go_cut [] (fun wx => BkAt wx w.heap.size c ∧ BkAt wx (w.heap.size + 1) zero ∧ BkAt wx w2.heap.size { m with l := y } ∧ Below w.heap.size w wx)
          case first =>
            go_wp2_with fail
            go_meet
            case rel => exact ⟨K0.out.far _ (by omega), K1.out.far _ (by omega), K2.out.set3 _, HB.out.setCell (by simp; omega) _⟩
          case rest =>
          clear k0_0 k0_1 k0_2 k0_3 k0_4 k0_f0 k0_f1 k0_f2 k0_f3 k0_f4 k0_l
          clear k1_0 k1_1 k1_2 k1_3 k1_4 k1_f0 k1_f1 k1_f2 k1_f3 k1_f4 k1_l
          clear k2_0 k2_1 k2_2 k2_3 k2_4 k2_f0 k2_f1 k2_f2 k2_f3 k2_f4 k2_l
          clear K0 K1 K2 HB
          obtain ⟨K0, K1, K2, HB⟩ := hcut
          have K0 := Lib.hid K0
          have K1 := Lib.hid K1
          have K2 := Lib.hid K2
          have HB := Lib.hid HB
          obtain ⟨k0_0, k0_1, k0_2, k0_3, k0_4, k0_f0, k0_f1, k0_f2, k0_f3, k0_f4, k0_l⟩ := K0.out
          obtain ⟨k1_0, k1_1, k1_2, k1_3, k1_4, k1_f0, k1_f1, k1_f2, k1_f3, k1_f4, k1_l⟩ := K1.out
          obtain ⟨k2_0, k2_1, k2_2, k2_3, k2_4, k2_f0, k2_f1, k2_f2, k2_f3, k2_f4, k2_l⟩ := K2.out
          simp only at k2_0 k2_1 k2_2 k2_3 k2_4
          have hB := HB.out
          go_wp2
          rw [HF.out]
          refine bodyPost_ret (v := .tuple #[.agg #[.int .i64 m.r, .int .i64 m.p, .int .i64 m.s, .int .i64 y, .int .i64 m.t], .int .i64 0]) (by simp [results, Try.results20, go_sem, k1_0, k1_1, k1_2, k1_3, k1_4, k1_l]) rfl ?_
          exact ⟨rfl, by go_grown⟩
        · have HF := Lib.hid (show bchg b r p s t = ({ m with l := k * p }, 0) by unfold bchg; rw [hce, hne]; simp only; rw [if_neg (by simp), if_neg (by simp)]; rw [if_neg hr, hk, if_neg hm])
          have hm2 : k ≤ m.s := by omega
          obtain ⟨m0, m1⟩ := mul_bd (a := k) (A := 1073741824) (by omega) (by omega) (show 0 ≤ p by omega) p2
          obtain ⟨y, hy⟩ : ∃ y, k * p = y := ⟨_, rfl⟩
          rw [hy] at m0 m1 HF
          have m2 : y ≤ 1125899906842624 := by omega
          clear hce hne n1 n2 n3 n4 n9 n10 hr hrb hk m1 hm
          unfold Bk.v at *
          go_enter Try.func20, Try.ntmps20
          go_upto_region 1 with fail
          go_cut [12] (fun v12 wx => v12 = .int .i64 0 ∧ BkAt wx w.heap.size c ∧ BkAt wx (w.heap.size + 1) zero ∧ Below w.heap.size w wx)
          case first =>
            go_wp2_with fail
            refine (HA.out _).mono ?_
            rintro e w1 ⟨rfl, hb1⟩
            have k0 : BkAt w1 w.heap.size b := ((BkAt.new w b 24).alloc _).below hb1 (by simp; omega)
            have k1 : BkAt w1 (w.heap.size + 1) zero := by
              have := BkAt.new (w.alloc (.cells #[.int .i64 b.r, .int .i64 b.p, .int .i64 b.s, .int .i64 b.l, .int .i64 b.t] 24)) zero 24
              rw [show (w.alloc (.cells #[.int .i64 b.r, .int .i64 b.p, .int .i64 b.s, .int .i64 b.l, .int .i64 b.t] 24)).heap.size = w.heap.size + 1 by simp] at this
              exact this.below hb1 (by first | (simp; done) | (simp; omega))
            have hB : Below w.heap.size w w1 := Below.trans (by go_grown) (hb1.mono (by first | omega | (simp; done) | (simp; omega)))
            have K0 := Lib.hid k0
            have K1 := Lib.hid k1
            clear hb1
            obtain ⟨c0, c1, c2, c3, c4, f0, f1, f2, f3, f4, lt0⟩ := k0
            obtain ⟨d0, d1, d2, d3, d4, j0, j1, j2, j3, j4, lt1⟩ := k1
            go_wp2_with fail
            go_meet
            case rel => exact ⟨rfl, K0.out.store c, K1.out.afar _ _ _ _ _ (by omega), by go_grown⟩
          case rest =>
          obtain ⟨rfl, k0, k1, hB⟩ := hcut
          have K0 := Lib.hid k0
          have K1 := Lib.hid k1
          have HB := Lib.hid hB
          clear hB k0 k1
          obtain ⟨k0_0, k0_1, k0_2, k0_3, k0_4, k0_f0, k0_f1, k0_f2, k0_f3, k0_f4, k0_l⟩ := K0.out
          obtain ⟨k1_0, k1_1, k1_2, k1_3, k1_4, k1_f0, k1_f1, k1_f2, k1_f3, k1_f4, k1_l⟩ := K1.out
          go_wp2_with fail
          refine (HN.out _).mono ?_
          rintro e w2 ⟨rfl, hb2⟩
          clear k0_0 k0_1 k0_2 k0_3 k0_4 k0_f0 k0_f1 k0_f2 k0_f3 k0_f4 k0_l
          clear k1_0 k1_1 k1_2 k1_3 k1_4 k1_f0 k1_f1 k1_f2 k1_f3 k1_f4 k1_l
          have K0n : Hid (BkAt w2 w.heap.size c) := Lib.hid (BkAt.call (by repeat (first | exact K0.out | refine BkAt.alloc ?_ _ | refine BkAt.drew ?_ | exact BkAt.new _ _ _)) hb2)
          have K1n : Hid (BkAt w2 (w.heap.size + 1) zero) := Lib.hid (BkAt.call (by repeat (first | exact K1.out | refine BkAt.alloc ?_ _ | refine BkAt.drew ?_ | exact BkAt.new _ _ _)) hb2)
          have HBn : Hid (Below w.heap.size w w2) := Lib.hid (below_call (by repeat (first | exact HB.out | refine below_al ?_ _ | refine Below.drew ?_)) hb2)
          clear K0
          have K0 := K0n
          clear K0n
          clear K1
          have K1 := K1n
          clear K1n
          clear HB
          have HB := HBn
          clear HBn
          clear hb2
          obtain ⟨k0_0, k0_1, k0_2, k0_3, k0_4, k0_f0, k0_f1, k0_f2, k0_f3, k0_f4, k0_l⟩ := K0.out
          obtain ⟨k1_0, k1_1, k1_2, k1_3, k1_4, k1_f0, k1_f1, k1_f2, k1_f3, k1_f4, k1_l⟩ := K1.out
          have hh2 : w.heap.size + 1 < w2.heap.size := k1_l
          go_wp2_with fail
          refine (HT.out _).mono ?_
          rintro e w3 ⟨rfl, hb3⟩
          clear k0_0 k0_1 k0_2 k0_3 k0_4 k0_f0 k0_f1 k0_f2 k0_f3 k0_f4 k0_l
          clear k1_0 k1_1 k1_2 k1_3 k1_4 k1_f0 k1_f1 k1_f2 k1_f3 k1_f4 k1_l
          have K0n : Hid (BkAt w3 w.heap.size c) := Lib.hid (BkAt.call (by repeat (first | exact K0.out | refine BkAt.alloc ?_ _ | refine BkAt.drew ?_ | exact BkAt.new _ _ _)) hb3)
          have K1n : Hid (BkAt w3 (w.heap.size + 1) zero) := Lib.hid (BkAt.call (by repeat (first | exact K1.out | refine BkAt.alloc ?_ _ | refine BkAt.drew ?_ | exact BkAt.new _ _ _)) hb3)
          have K2n : Hid (BkAt w3 w2.heap.size m) := Lib.hid (BkAt.call (by repeat (first | exact BkAt.new _ _ _ | refine BkAt.alloc ?_ _ | refine BkAt.drew ?_)) hb3)
          have HBn : Hid (Below w.heap.size w w3) := Lib.hid (below_call (by repeat (first | exact HB.out | refine below_al ?_ _ | refine Below.drew ?_)) hb3)
          clear K0
          have K0 := K0n
          clear K0n
          clear K1
          have K1 := K1n
          clear K1n
          have K2 := K2n
          clear K2n
          clear HB
          have HB := HBn
          clear HBn
          clear hb3
          obtain ⟨k0_0, k0_1, k0_2, k0_3, k0_4, k0_f0, k0_f1, k0_f2, k0_f3, k0_f4, k0_l⟩ := K0.out
          obtain ⟨k1_0, k1_1, k1_2, k1_3, k1_4, k1_f0, k1_f1, k1_f2, k1_f3, k1_f4, k1_l⟩ := K1.out
          obtain ⟨k2_0, k2_1, k2_2, k2_3, k2_4, k2_f0, k2_f1, k2_f2, k2_f3, k2_f4, k2_l⟩ := K2.out
          go_wp2_with fail
          refine (HO.out _).mono ?_
          rintro e w4 ⟨rfl, hb4⟩
          clear k0_0 k0_1 k0_2 k0_3 k0_4 k0_f0 k0_f1 k0_f2 k0_f3 k0_f4 k0_l
          clear k1_0 k1_1 k1_2 k1_3 k1_4 k1_f0 k1_f1 k1_f2 k1_f3 k1_f4 k1_l
          clear k2_0 k2_1 k2_2 k2_3 k2_4 k2_f0 k2_f1 k2_f2 k2_f3 k2_f4 k2_l
          have K0n : Hid (BkAt w4 w.heap.size c) := Lib.hid (BkAt.call (by repeat (first | exact K0.out | refine BkAt.alloc ?_ _ | refine BkAt.drew ?_ | exact BkAt.new _ _ _)) hb4)
          have K1n : Hid (BkAt w4 (w.heap.size + 1) zero) := Lib.hid (BkAt.call (by repeat (first | exact K1.out | refine BkAt.alloc ?_ _ | refine BkAt.drew ?_ | exact BkAt.new _ _ _)) hb4)
          have K2n : Hid (BkAt w4 w2.heap.size m) := Lib.hid (BkAt.call (by repeat (first | exact K2.out | refine BkAt.alloc ?_ _ | refine BkAt.drew ?_ | exact BkAt.new _ _ _)) hb4)
          have HBn : Hid (Below w.heap.size w w4) := Lib.hid (below_call (by repeat (first | exact HB.out | refine below_al ?_ _ | refine Below.drew ?_)) hb4)
          clear K0
          have K0 := K0n
          clear K0n
          clear K1
          have K1 := K1n
          clear K1n
          clear K2
          have K2 := K2n
          clear K2n
          clear HB
          have HB := HBn
          clear HBn
          clear hb4
          obtain ⟨k0_0, k0_1, k0_2, k0_3, k0_4, k0_f0, k0_f1, k0_f2, k0_f3, k0_f4, k0_l⟩ := K0.out
          obtain ⟨k1_0, k1_1, k1_2, k1_3, k1_4, k1_f0, k1_f1, k1_f2, k1_f3, k1_f4, k1_l⟩ := K1.out
          obtain ⟨k2_0, k2_1, k2_2, k2_3, k2_4, k2_f0, k2_f1, k2_f2, k2_f3, k2_f4, k2_l⟩ := K2.out
          go_upto_region 10 with fail
          go_cut [] (fun wx => BkAt wx w.heap.size c ∧ BkAt wx (w.heap.size + 1) zero ∧ BkAt wx w2.heap.size { m with l := y } ∧ Below w.heap.size w wx)
          case first =>
            go_wp2_with fail
            go_meet
            case rel => exact ⟨K0.out.far _ (by omega), K1.out.far _ (by omega), K2.out.set3 _, HB.out.setCell (by simp; omega) _⟩
          case rest =>
          clear k0_0 k0_1 k0_2 k0_3 k0_4 k0_f0 k0_f1 k0_f2 k0_f3 k0_f4 k0_l
          clear k1_0 k1_1 k1_2 k1_3 k1_4 k1_f0 k1_f1 k1_f2 k1_f3 k1_f4 k1_l
          clear k2_0 k2_1 k2_2 k2_3 k2_4 k2_f0 k2_f1 k2_f2 k2_f3 k2_f4 k2_l
          clear K0 K1 K2 HB
          obtain ⟨K0, K1, K2, HB⟩ := hcut
          have K0 := Lib.hid K0
          have K1 := Lib.hid K1
          have K2 := Lib.hid K2
          have HB := Lib.hid HB
          obtain ⟨k0_0, k0_1, k0_2, k0_3, k0_4, k0_f0, k0_f1, k0_f2, k0_f3, k0_f4, k0_l⟩ := K0.out
          obtain ⟨k1_0, k1_1, k1_2, k1_3, k1_4, k1_f0, k1_f1, k1_f2, k1_f3, k1_f4, k1_l⟩ := K1.out
          obtain ⟨k2_0, k2_1, k2_2, k2_3, k2_4, k2_f0, k2_f1, k2_f2, k2_f3, k2_f4, k2_l⟩ := K2.out
          simp only at k2_0 k2_1 k2_2 k2_3 k2_4
          have hB := HB.out
          go_wp2
          rw [HF.out]
          refine bodyPost_ret (v := .tuple #[.agg #[.int .i64 m.r, .int .i64 m.p, .int .i64 m.s, .int .i64 y, .int .i64 m.t], .int .i64 0]) (by simp [results, Try.results20, go_sem, k1_0, k1_1, k1_2, k1_3, k1_4, k1_l]) rfl ?_
          exact ⟨rfl, by go_grown⟩
    · have HF := Lib.hid (show bchg b r p s t = (zero, e1) by unfold bchg; rw [hce, hne]; simp only; rw [if_neg (by simp), if_pos he1])
      have he2 : (e1 == 0) = false := by simp [he1]
      have he3 : (e1 != 0) = true := by simp [he1]
      clear hce hne he1
      unfold Bk.v at *
      go_enter Try.func20, Try.ntmps20
      go_upto_region 1 with fail
      go_cut [12] (fun v12 wx => v12 = .int .i64 0 ∧ BkAt wx w.heap.size c ∧ BkAt wx (w.heap.size + 1) zero ∧ Below w.heap.size w wx)
      case first =>
        go_wp2_with fail
        refine (HA.out _).mono ?_
        rintro e w1 ⟨rfl, hb1⟩
        have k0 : BkAt w1 w.heap.size b := ((BkAt.new w b 24).alloc _).below hb1 (by simp; omega)
        have k1 : BkAt w1 (w.heap.size + 1) zero := by
          have := BkAt.new (w.alloc (.cells #[.int .i64 b.r, .int .i64 b.p, .int .i64 b.s, .int .i64 b.l, .int .i64 b.t] 24)) zero 24
          rw [show (w.alloc (.cells #[.int .i64 b.r, .int .i64 b.p, .int .i64 b.s, .int .i64 b.l, .int .i64 b.t] 24)).heap.size = w.heap.size + 1 by simp] at this
          exact this.below hb1 (by first | (simp; done) | (simp; omega))
        have hB : Below w.heap.size w w1 := Below.trans (by go_grown) (hb1.mono (by first | omega | (simp; done) | (simp; omega)))
        have K0 := Lib.hid k0
        have K1 := Lib.hid k1
        clear hb1
        obtain ⟨c0, c1, c2, c3, c4, f0, f1, f2, f3, f4, lt0⟩ := k0
        obtain ⟨d0, d1, d2, d3, d4, j0, j1, j2, j3, j4, lt1⟩ := k1
        go_wp2_with fail
        go_meet
        case rel => exact ⟨rfl, K0.out.store c, K1.out.afar _ _ _ _ _ (by omega), by go_grown⟩
      case rest =>
      obtain ⟨rfl, k0, k1, hB⟩ := hcut
      have K0 := Lib.hid k0
      have K1 := Lib.hid k1
      have HB := Lib.hid hB
      clear hB k0 k1
      obtain ⟨k0_0, k0_1, k0_2, k0_3, k0_4, k0_f0, k0_f1, k0_f2, k0_f3, k0_f4, k0_l⟩ := K0.out
      obtain ⟨k1_0, k1_1, k1_2, k1_3, k1_4, k1_f0, k1_f1, k1_f2, k1_f3, k1_f4, k1_l⟩ := K1.out
      go_wp2_with fail
      refine (HN.out _).mono ?_
      rintro e w2 ⟨rfl, hb2⟩
      clear k0_0 k0_1 k0_2 k0_3 k0_4 k0_f0 k0_f1 k0_f2 k0_f3 k0_f4 k0_l
      clear k1_0 k1_1 k1_2 k1_3 k1_4 k1_f0 k1_f1 k1_f2 k1_f3 k1_f4 k1_l
      have K0n : Hid (BkAt w2 w.heap.size c) := Lib.hid (BkAt.call (by repeat (first | exact K0.out | refine BkAt.alloc ?_ _ | refine BkAt.drew ?_ | exact BkAt.new _ _ _)) hb2)
      have K1n : Hid (BkAt w2 (w.heap.size + 1) zero) := Lib.hid (BkAt.call (by repeat (first | exact K1.out | refine BkAt.alloc ?_ _ | refine BkAt.drew ?_ | exact BkAt.new _ _ _)) hb2)
      have HBn : Hid (Below w.heap.size w w2) := Lib.hid (below_call (by repeat (first | exact HB.out | refine below_al ?_ _ | refine Below.drew ?_)) hb2)
      clear K0
      have K0 := K0n
      clear K0n
      clear K1
      have K1 := K1n
      clear K1n
      clear HB
      have HB := HBn
      clear HBn
      clear hb2
      obtain ⟨k0_0, k0_1, k0_2, k0_3, k0_4, k0_f0, k0_f1, k0_f2, k0_f3, k0_f4, k0_l⟩ := K0.out
      obtain ⟨k1_0, k1_1, k1_2, k1_3, k1_4, k1_f0, k1_f1, k1_f2, k1_f3, k1_f4, k1_l⟩ := K1.out
      have hB := HB.out
      go_wp2
      rw [HF.out]
      refine bodyPost_ret (v := .tuple #[.agg #[.int .i64 0, .int .i64 0, .int .i64 0, .int .i64 0, .int .i64 0], .int .i64 e1]) (by simp [results, Try.results20, go_sem, k1_0, k1_1, k1_2, k1_3, k1_4, k1_l]) rfl ?_
      exact ⟨rfl, by go_grown⟩
  · have HF := Lib.hid (show bchg b r p s t = (zero, e0) by unfold bchg; rw [hce, hne]; simp only; rw [if_pos he])
    have he1 : (e0 == 0) = false := by simp [he]
    have he2 : (e0 != 0) = true := by simp [he]
    clear he hce hne HN
    unfold Bk.v at *
    go_enter Try.func20, Try.ntmps20
    go_upto_region 1 with fail
    go_cut [12] (fun v12 wx => v12 = .int .i64 e0 ∧ BkAt wx w.heap.size c ∧ BkAt wx (w.heap.size + 1) zero ∧ Below w.heap.size w wx)
    case first =>
      go_wp2_with fail
      refine (HA.out _).mono ?_
      rintro e w1 ⟨rfl, hb1⟩
      have k0 : BkAt w1 w.heap.size b := ((BkAt.new w b 24).alloc _).below hb1 (by simp; omega)
      have k1 : BkAt w1 (w.heap.size + 1) zero := by
        have := BkAt.new (w.alloc (.cells #[.int .i64 b.r, .int .i64 b.p, .int .i64 b.s, .int .i64 b.l, .int .i64 b.t] 24)) zero 24
        rw [show (w.alloc (.cells #[.int .i64 b.r, .int .i64 b.p, .int .i64 b.s, .int .i64 b.l, .int .i64 b.t] 24)).heap.size = w.heap.size + 1 by simp] at this
        exact this.below hb1 (by first | (simp; done) | (simp; omega))
      have hB : Below w.heap.size w w1 := Below.trans (by go_grown) (hb1.mono (by first | omega | (simp; done) | (simp; omega)))
      have K0 := Lib.hid k0
      have K1 := Lib.hid k1
      clear hb1
      obtain ⟨c0, c1, c2, c3, c4, f0, f1, f2, f3, f4, lt0⟩ := k0
      obtain ⟨d0, d1, d2, d3, d4, j0, j1, j2, j3, j4, lt1⟩ := k1
      go_wp2_with fail
      go_meet
      case rel => exact ⟨rfl, K0.out.store c, K1.out.afar _ _ _ _ _ (by omega), by go_grown⟩
    case rest =>
    obtain ⟨rfl, k0, k1, hB⟩ := hcut
    have K0 := Lib.hid k0
    have K1 := Lib.hid k1
    have HB := Lib.hid hB
    clear hB k0 k1
    obtain ⟨k0_0, k0_1, k0_2, k0_3, k0_4, k0_f0, k0_f1, k0_f2, k0_f3, k0_f4, k0_l⟩ := K0.out
    obtain ⟨k1_0, k1_1, k1_2, k1_3, k1_4, k1_f0, k1_f1, k1_f2, k1_f3, k1_f4, k1_l⟩ := K1.out
    have hB := HB.out
    go_wp2
    rw [HF.out]
    refine bodyPost_ret (v := .tuple #[.agg #[.int .i64 0, .int .i64 0, .int .i64 0, .int .i64 0, .int .i64 0], .int .i64 e0]) (by simp [results, Try.results20, go_sem, k1_0, k1_1, k1_2, k1_3, k1_4, k1_l]) rfl ?_
    exact ⟨rfl, by go_grown⟩

end Go.Proofs.Ytcfkmkabjalgjac
