/- Contracts of the reference's buckets: Take. -/
import Derived.Test.YtcfkmkabjalgjacBkra
namespace Go.Proofs.Ytcfkmkabjalgjac
open Go.RowKit
set_option linter.unusedVariables false
set_option linter.unusedSimpArgs false

theorem btok_open (b : Bk) (h : Ok b) (hr : b.r = 4611686018427387904) : btok b = 1073741824 := by unfold btok; rw [if_neg (by simpa using h), if_pos hr]
theorem btok_bd (b : Bk) : 0 ≤ btok b ∧ btok b ≤ 1125899906842624 := by
  unfold btok
  by_cases h : Ok b
  · rw [if_neg (by simpa using h)]
    by_cases hr : b.r = 4611686018427387904
    · rw [if_pos hr]; omega
    · rw [if_neg hr]
      obtain ⟨o1, o2, o3, o4, o5, o6, o7, o8, o9, o10, o11⟩ := ok_shut b h hr
      have := Int.ediv_nonneg o9 (show 0 ≤ b.p by omega)
      have := Int.ediv_le_self b.p o9
      omega
  · rw [if_pos (by simpa using h)]; omega
set_option maxHeartbeats 4000000 in
theorem rtake_any (b : Bk) (now n : Int) (w : World) :
    Calls Try.prog 23 #[b.v, .int .i64 now, .int .i64 n] w fun e w' => e = .returned (.tuple #[(btake b now n).1.v, .int .i64 (btake b now n).2]) ∧ Below w.heap.size w w' := by
  obtain ⟨c, e0, hce⟩ : ∃ c e0, badv b now = (c, e0) := ⟨_, _, rfl⟩
  have HA := Lib.hid (fun w => radv_any b now w)
  rw [hce] at HA
  simp only at HA
  by_cases he : e0 = 0
  · subst he
    have hok := (badv_ok b now c hce).1
    by_cases hn : n < 0
    · have HF := Lib.hid (show btake b now n = (zero, 3) by unfold btake; rw [hce]; simp only; rw [if_neg (by simp)]; rw [if_pos (by omega)])
      clear hok hce
      unfold Bk.v at *
      go_enter Try.func23, Try.ntmps23
      go_upto_region 1 with fail
      go_cut [8] (fun v8 wx => v8 = .int .i64 0 ∧ BkAt wx w.heap.size c ∧ BkAt wx (w.heap.size + 1) zero ∧ Below w.heap.size w wx)
      case first =>
        go_wp2_with fail
        refine (HA.out _).mono ?_
        rintro e w1 ⟨rfl, hb1⟩
        have k0 : BkAt w1 w.heap.size b := ((BkAt.new w b 24).alloc _).below hb1 (by simp; omega)
        have k1 : BkAt w1 (w.heap.size + 1) zero := by
          have := BkAt.new (w.alloc (.cells #[.int .i64 b.r, .int .i64 b.p, .int .i64 b.s, .int .i64 b.l, .int .i64 b.t] 24)) zero 24
          rw [show (w.alloc (.cells #[.int .i64 b.r, .int .i64 b.p, .int .i64 b.s, .int .i64 b.l, .int .i64 b.t] 24)).heap.size = w.heap.size + 1 by simp] at this
          exact this.below hb1 (by first | (simp; done) | (simp; omega))
        have hB : Below w.heap.size w w1 := Below.trans (by go_grown) (hb1.mono (by first | omega | (simp; done) | (simp; omega)))
        have K0 := Lib.hid k0
        have K1 := Lib.hid k1
        clear hb1
        obtain ⟨c0, c1, c2, c3, c4, f0, f1, f2, f3, f4, lt0⟩ := k0
        obtain ⟨d0, d1, d2, d3, d4, j0, j1, j2, j3, j4, lt1⟩ := k1
        go_wp2_with fail
        go_meet
        case rel => exact ⟨rfl, K0.out.store c, K1.out.afar _ _ _ _ _ (by omega), by go_grown⟩
      case rest =>
      obtain ⟨rfl, k0, k1, hB⟩ := hcut
      have K0 := Lib.hid k0
      have K1 := Lib.hid k1
      have HB := Lib.hid hB
      clear hB
      obtain ⟨c0, c1, c2, c3, c4, f0, f1, f2, f3, f4, lt0⟩ := k0
      obtain ⟨d0, d1, d2, d3, d4, j0, j1, j2, j3, j4, lt1⟩ := k1
      have hB := HB.out
      go_wp2
      rw [HF.out]
      refine bodyPost_ret (v := .tuple #[.agg #[.int .i64 0, .int .i64 0, .int .i64 0, .int .i64 0, .int .i64 0], .int .i64 3]) (by simp [results, Try.results23, go_sem, d0, d1, d2, d3, d4]) rfl ?_
      exact ⟨rfl, by go_grown⟩
    · by_cases hn2 : 1073741824 < n
      · have HF := Lib.hid (show btake b now n = (zero, 3) by unfold btake; rw [hce]; simp only; rw [if_neg (by simp)]; rw [if_pos (by omega)])
        have hn3 : decide (n ≤ 1073741824) = false := by simp; omega
        clear hok hce
        unfold Bk.v at *
        go_enter Try.func23, Try.ntmps23
        go_upto_region 1 with fail
        go_cut [8] (fun v8 wx => v8 = .int .i64 0 ∧ BkAt wx w.heap.size c ∧ BkAt wx (w.heap.size + 1) zero ∧ Below w.heap.size w wx)
        case first =>
          go_wp2_with fail
          refine (HA.out _).mono ?_
          rintro e w1 ⟨rfl, hb1⟩
          have k0 : BkAt w1 w.heap.size b := ((BkAt.new w b 24).alloc _).below hb1 (by simp; omega)
          have k1 : BkAt w1 (w.heap.size + 1) zero := by
            have := BkAt.new (w.alloc (.cells #[.int .i64 b.r, .int .i64 b.p, .int .i64 b.s, .int .i64 b.l, .int .i64 b.t] 24)) zero 24
            rw [show (w.alloc (.cells #[.int .i64 b.r, .int .i64 b.p, .int .i64 b.s, .int .i64 b.l, .int .i64 b.t] 24)).heap.size = w.heap.size + 1 by simp] at this
            exact this.below hb1 (by first | (simp; done) | (simp; omega))
          have hB : Below w.heap.size w w1 := Below.trans (by go_grown) (hb1.mono (by first | omega | (simp; done) | (simp; omega)))
          have K0 := Lib.hid k0
          have K1 := Lib.hid k1
          clear hb1
          obtain ⟨c0, c1, c2, c3, c4, f0, f1, f2, f3, f4, lt0⟩ := k0
          obtain ⟨d0, d1, d2, d3, d4, j0, j1, j2, j3, j4, lt1⟩ := k1
          go_wp2_with fail
          go_meet
          case rel => exact ⟨rfl, K0.out.store c, K1.out.afar _ _ _ _ _ (by omega), by go_grown⟩
        case rest =>
        obtain ⟨rfl, k0, k1, hB⟩ := hcut
        have K0 := Lib.hid k0
        have K1 := Lib.hid k1
        have HB := Lib.hid hB
        clear hB
        obtain ⟨c0, c1, c2, c3, c4, f0, f1, f2, f3, f4, lt0⟩ := k0
        obtain ⟨d0, d1, d2, d3, d4, j0, j1, j2, j3, j4, lt1⟩ := k1
        have hB := HB.out
        go_wp2
        rw [HF.out]
        refine bodyPost_ret (v := .tuple #[.agg #[.int .i64 0, .int .i64 0, .int .i64 0, .int .i64 0, .int .i64 0], .int .i64 3]) (by simp [results, Try.results23, go_sem, d0, d1, d2, d3, d4]) rfl ?_
        exact ⟨rfl, by go_grown⟩
      · have HN := Lib.hid (show ¬ (n < 0 ∨ 1073741824 < n) by omega)
        have n0 : 0 ≤ n := by omega
        have n1 : n ≤ 1073741824 := by omega
        clear hn hn2
        by_cases hr : c.r = 4611686018427387904
        · have HF := Lib.hid (show btake b now n = (c, 0) by unfold btake; rw [hce]; simp only; rw [if_neg (by simp)]; rw [if_neg HN.out, btok_open c hok hr, if_neg (by omega), if_pos hr])
          have hrb : (c.r == 4611686018427387904) = true := by simp [hr]
          clear hok hce hr
          unfold Bk.v at *
          go_enter Try.func23, Try.ntmps23
          go_upto_region 1 with fail
          go_cut [8] (fun v8 wx => v8 = .int .i64 0 ∧ BkAt wx w.heap.size c ∧ BkAt wx (w.heap.size + 1) zero ∧ Below w.heap.size w wx)
          case first =>
            go_wp2_with fail
            refine (HA.out _).mono ?_
            rintro e w1 ⟨rfl, hb1⟩
            have k0 : BkAt w1 w.heap.size b := ((BkAt.new w b 24).alloc _).below hb1 (by simp; omega)
            have k1 : BkAt w1 (w.heap.size + 1) zero := by
              have := BkAt.new (w.alloc (.cells #[.int .i64 b.r, .int .i64 b.p, .int .i64 b.s, .int .i64 b.l, .int .i64 b.t] 24)) zero 24
              rw [show (w.alloc (.cells #[.int .i64 b.r, .int .i64 b.p, .int .i64 b.s, .int .i64 b.l, .int .i64 b.t] 24)).heap.size = w.heap.size + 1 by simp] at this
              exact this.below hb1 (by first | (simp; done) | (simp; omega))
            have hB : Below w.heap.size w w1 := Below.trans (by go_grown) (hb1.mono (by first | omega | (simp; done) | (simp; omega)))
            have K0 := Lib.hid k0
            have K1 := Lib.hid k1
            clear hb1
            obtain ⟨c0, c1, c2, c3, c4, f0, f1, f2, f3, f4, lt0⟩ := k0
            obtain ⟨d0, d1, d2, d3, d4, j0, j1, j2, j3, j4, lt1⟩ := k1
            go_wp2_with fail
            go_meet
            case rel => exact ⟨rfl, K0.out.store c, K1.out.afar _ _ _ _ _ (by omega), by go_grown⟩
          case rest =>
          obtain ⟨rfl, k0, k1, hB⟩ := hcut
          have K0 := Lib.hid k0
          have K1 := Lib.hid k1
          have HB := Lib.hid hB
          clear hB
          obtain ⟨c0, c1, c2, c3, c4, f0, f1, f2, f3, f4, lt0⟩ := k0
          obtain ⟨d0, d1, d2, d3, d4, j0, j1, j2, j3, j4, lt1⟩ := k1
          have hB := HB.out
          go_wp2
          rw [HF.out]
          refine bodyPost_ret (v := .tuple #[.agg #[.int .i64 c.r, .int .i64 c.p, .int .i64 c.s, .int .i64 c.l, .int .i64 c.t], .int .i64 0]) (by simp [results, Try.results23, go_sem, d0, d1, d2, d3, d4]) rfl ?_
          exact ⟨rfl, by go_grown⟩
        · have HT := Lib.hid (fun w => rtok_any c w)
          obtain ⟨m, hm⟩ : ∃ m, btok c = m := ⟨_, rfl⟩
          rw [hm] at HT
          have hrb : (c.r == 4611686018427387904) = false := by simp [hr]
          by_cases hmn : m < n
          · have HF := Lib.hid (show btake b now n = (c, 11) by unfold btake; rw [hce]; simp only; rw [if_neg (by simp)]; rw [if_neg HN.out, hm, if_pos hmn])
            clear hok hce hm
            unfold Bk.v at *
            go_enter Try.func23, Try.ntmps23
            go_upto_region 1 with fail
            go_cut [8] (fun v8 wx => v8 = .int .i64 0 ∧ BkAt wx w.heap.size c ∧ BkAt wx (w.heap.size + 1) zero ∧ Below w.heap.size w wx)
            case first =>
              go_wp2_with fail
              refine (HA.out _).mono ?_
              rintro e w1 ⟨rfl, hb1⟩
              have k0 : BkAt w1 w.heap.size b := ((BkAt.new w b 24).alloc _).below hb1 (by simp; omega)
              have k1 : BkAt w1 (w.heap.size + 1) zero := by
                have := BkAt.new (w.alloc (.cells #[.int .i64 b.r, .int .i64 b.p, .int .i64 b.s, .int .i64 b.l, .int .i64 b.t] 24)) zero 24
                rw [show (w.alloc (.cells #[.int .i64 b.r, .int .i64 b.p, .int .i64 b.s, .int .i64 b.l, .int .i64 b.t] 24)).heap.size = w.heap.size + 1 by simp] at this
                exact this.below hb1 (by first | (simp; done) | (simp; omega))
              have hB : Below w.heap.size w w1 := Below.trans (by go_grown) (hb1.mono (by first | omega | (simp; done) | (simp; omega)))
              have K0 := Lib.hid k0
              have K1 := Lib.hid k1
              clear hb1
              obtain ⟨c0, c1, c2, c3, c4, f0, f1, f2, f3, f4, lt0⟩ := k0
              obtain ⟨d0, d1, d2, d3, d4, j0, j1, j2, j3, j4, lt1⟩ := k1
              go_wp2_with fail
              go_meet
              case rel => exact ⟨rfl, K0.out.store c, K1.out.afar _ _ _ _ _ (by omega), by go_grown⟩
            case rest =>
            obtain ⟨rfl, k0, k1, hB⟩ := hcut
            have K0 := Lib.hid k0
            have K1 := Lib.hid k1
            have HB := Lib.hid hB
            clear hB
            obtain ⟨c0, c1, c2, c3, c4, f0, f1, f2, f3, f4, lt0⟩ := k0
            obtain ⟨d0, d1, d2, d3, d4, j0, j1, j2, j3, j4, lt1⟩ := k1
            go_wp2_with fail
            refine (HT.out _).mono ?_
            rintro e w2 ⟨rfl, hb2⟩
            have k0 := K0.out.below hb2 K0.out.lt
            have k1 := K1.out.below hb2 K1.out.lt
            have hB2 := HB.out.trans (hb2.mono HB.out.size)
            clear c0 c1 c2 c3 c4 f0 f1 f2 f3 f4 lt0 d0 d1 d2 d3 d4 j0 j1 j2 j3 j4 lt1 K0 K1 HB hb2
            have K0 := Lib.hid k0
            have K1 := Lib.hid k1
            have HB := Lib.hid hB2
            clear hB2
            obtain ⟨c0, c1, c2, c3, c4, f0, f1, f2, f3, f4, lt0⟩ := k0
            obtain ⟨d0, d1, d2, d3, d4, j0, j1, j2, j3, j4, lt1⟩ := k1
            have hB := HB.out
            go_wp2
            rw [HF.out]
            refine bodyPost_ret (v := .tuple #[.agg #[.int .i64 c.r, .int .i64 c.p, .int .i64 c.s, .int .i64 c.l, .int .i64 c.t], .int .i64 11]) (by simp [results, Try.results23, go_sem, d0, d1, d2, d3, d4]) rfl ?_
            exact ⟨rfl, by go_grown⟩
          · have HF := Lib.hid (show btake b now n = ({ c with l := c.l - n * c.p }, 0) by unfold btake; rw [hce]; simp only; rw [if_neg (by simp)]; rw [if_neg HN.out, hm, if_neg hmn, if_neg hr])
            obtain ⟨o1, o2, o3, o4, o5, o6, o7, o8, o9, o10, o11⟩ := ok_shut c hok hr
            obtain ⟨m0, m1⟩ := mul_bd n0 n1 (show 0 ≤ c.p by omega) o2
            obtain ⟨y, hy⟩ : ∃ y, n * c.p = y := ⟨_, rfl⟩
            rw [hy] at m0 m1 HF
            have m2 : y ≤ 1125899906842624 := by omega
            clear hok hce hm hr m1 o10
            unfold Bk.v at *
            go_enter Try.func23, Try.ntmps23
            go_upto_region 1 with fail
            go_cut [8] (fun v8 wx => v8 = .int .i64 0 ∧ BkAt wx w.heap.size c ∧ BkAt wx (w.heap.size + 1) zero ∧ Below w.heap.size w wx)
            case first =>
              go_wp2_with fail
              refine (HA.out _).mono ?_
              rintro e w1 ⟨rfl, hb1⟩
              have k0 : BkAt w1 w.heap.size b := ((BkAt.new w b 24).alloc _).below hb1 (by simp; omega)
              have k1 : BkAt w1 (w.heap.size + 1) zero := by
                have := BkAt.new (w.alloc (.cells #[.int .i64 b.r, .int .i64 b.p, .int .i64 b.s, .int .i64 b.l, .int .i64 b.t] 24)) zero 24
                rw [show (w.alloc (.cells #[.int .i64 b.r, .int .i64 b.p, .int .i64 b.s, .int .i64 b.l, .int .i64 b.t] 24)).heap.size = w.heap.size + 1 by simp] at this
                exact this.below hb1 (by first | (simp; done) | (simp; omega))
              have hB : Below w.heap.size w w1 := Below.trans (by go_grown) (hb1.mono (by first | omega | (simp; done) | (simp; omega)))
              have K0 := Lib.hid k0
              have K1 := Lib.hid k1
              clear hb1
              obtain ⟨c0, c1, c2, c3, c4, f0, f1, f2, f3, f4, lt0⟩ := k0
              obtain ⟨d0, d1, d2, d3, d4, j0, j1, j2, j3, j4, lt1⟩ := k1
              go_wp2_with fail
              go_meet
              case rel => exact ⟨rfl, K0.out.store c, K1.out.afar _ _ _ _ _ (by omega), by go_grown⟩
            case rest =>
            obtain ⟨rfl, k0, k1, hB⟩ := hcut
            have K0 := Lib.hid k0
            have K1 := Lib.hid k1
            have HB := Lib.hid hB
            clear hB
            obtain ⟨c0, c1, c2, c3, c4, f0, f1, f2, f3, f4, lt0⟩ := k0
            obtain ⟨d0, d1, d2, d3, d4, j0, j1, j2, j3, j4, lt1⟩ := k1
            go_wp2_with fail
            refine (HT.out _).mono ?_
            rintro e w2 ⟨rfl, hb2⟩
            have k0 := K0.out.below hb2 K0.out.lt
            have k1 := K1.out.below hb2 K1.out.lt
            have hB2 := HB.out.trans (hb2.mono HB.out.size)
            clear c0 c1 c2 c3 c4 f0 f1 f2 f3 f4 lt0 d0 d1 d2 d3 d4 j0 j1 j2 j3 j4 lt1 K0 K1 HB hb2
            have K0 := Lib.hid k0
            have K1 := Lib.hid k1
            have HB := Lib.hid hB2
            clear hB2
            obtain ⟨c0, c1, c2, c3, c4, f0, f1, f2, f3, f4, lt0⟩ := k0
            obtain ⟨d0, d1, d2, d3, d4, j0, j1, j2, j3, j4, lt1⟩ := k1
            have hB := HB.out
            go_wp2
            rw [HF.out]
            refine bodyPost_ret (v := .tuple #[.agg #[.int .i64 c.r, .int .i64 c.p, .int .i64 c.s, .int .i64 (c.l - y), .int .i64 c.t], .int .i64 0]) (by simp [results, Try.results23, go_sem, d0, d1, d2, d3, d4]) rfl ?_
            exact ⟨rfl, by go_grown⟩
  · have HF := Lib.hid (show btake b now n = (zero, e0) by unfold btake; rw [hce]; simp only; rw [if_pos he])
    have he1 : (e0 == 0) = false := by simp [he]
    have he2 : (e0 != 0) = true := by simp [he]
    clear he hce
    unfold Bk.v at *
    go_enter Try.func23, Try.ntmps23
    go_upto_region 1 with fail
    go_cut [8] (fun v8 wx => v8 = .int .i64 e0 ∧ BkAt wx w.heap.size c ∧ BkAt wx (w.heap.size + 1) zero ∧ Below w.heap.size w wx)
    case first =>
      go_wp2_with fail
      refine (HA.out _).mono ?_
      rintro e w1 ⟨rfl, hb1⟩
      have k0 : BkAt w1 w.heap.size b := ((BkAt.new w b 24).alloc _).below hb1 (by simp; omega)
      have k1 : BkAt w1 (w.heap.size + 1) zero := by
        have := BkAt.new (w.alloc (.cells #[.int .i64 b.r, .int .i64 b.p, .int .i64 b.s, .int .i64 b.l, .int .i64 b.t] 24)) zero 24
        rw [show (w.alloc (.cells #[.int .i64 b.r, .int .i64 b.p, .int .i64 b.s, .int .i64 b.l, .int .i64 b.t] 24)).heap.size = w.heap.size + 1 by simp] at this
        exact this.below hb1 (by first | (simp; done) | (simp; omega))
      have hB : Below w.heap.size w w1 := Below.trans (by go_grown) (hb1.mono (by first | omega | (simp; done) | (simp; omega)))
      have K0 := Lib.hid k0
      have K1 := Lib.hid k1
      clear hb1
      obtain ⟨c0, c1, c2, c3, c4, f0, f1, f2, f3, f4, lt0⟩ := k0
      obtain ⟨d0, d1, d2, d3, d4, j0, j1, j2, j3, j4, lt1⟩ := k1
      go_wp2_with fail
      go_meet
      case rel => exact ⟨rfl, K0.out.store c, K1.out.afar _ _ _ _ _ (by omega), by go_grown⟩
    case rest =>
    obtain ⟨rfl, k0, k1, hB⟩ := hcut
    have K0 := Lib.hid k0
    have K1 := Lib.hid k1
    have HB := Lib.hid hB
    clear hB
    obtain ⟨c0, c1, c2, c3, c4, f0, f1, f2, f3, f4, lt0⟩ := k0
    obtain ⟨d0, d1, d2, d3, d4, j0, j1, j2, j3, j4, lt1⟩ := k1
    have hB := HB.out
    go_wp2
    rw [HF.out]
    refine bodyPost_ret (v := .tuple #[.agg #[.int .i64 0, .int .i64 0, .int .i64 0, .int .i64 0, .int .i64 0], .int .i64 e0]) (by simp [results, Try.results23, go_sem, d0, d1, d2, d3, d4]) rfl ?_
    exact ⟨rfl, by go_grown⟩

end Go.Proofs.Ytcfkmkabjalgjac
