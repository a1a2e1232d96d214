/- The walk of BucketWaits. -/
import Derived.Test.YtjfknijaohemgabBkm
import Derived.Test.YtjfknijaohemgabBks
import Derived.Test.YtjfknijaohemgabBkq
namespace Go.Proofs.Ytjfknijaohemgab
open Go.RowKit
set_option linter.unusedVariables false

set_option maxRecDepth 100000 in
set_option maxHeartbeats 4000000 in
theorem bwaits_walk (a0 : Option Addr) (len0 cap0 : Nat) (z0 : List Int) (a1 a2 : Int) (w : World) (w0 : IsRow .i64 w a0 len0 cap0 z0) (hlight : len0 ≤ 600) (wn : (Lit.int .i64 a1).wf = true) (wm : (Lit.int .i64 a2).wf = true) :
    Calls Try.prog 8 #[.slice a0 len0 cap0, .int .i64 a1, .int .i64 a2] w fun e w' => e = .returned (.bool true) ∧ Below w.heap.size w w' := by
  have hd : decide (len0 ≤ 600) = true := by simpa using hlight
  have HR := Lib.hid (roll_any a0 len0 cap0 z0 w w0)
  have HL := Lib.hid (light_any a0 len0 cap0 w)
  have WN := Lib.hid wn
  have WM := Lib.hid wm
  rw [hd] at HL
  clear w0 hd wn wm
  go_enter Try.func8, Try.ntmps8
  go_wp2_with fail
  refine HL.out.mono ?_
  rintro e w' ⟨rfl, rfl⟩
  go_wp2_with fail
  refine HR.out.mono ?_
  rintro e w1 ⟨rfl, hd1, hb1, hs1⟩
  have HD1 := Lib.hid hd1
  have HB1 := Lib.hid hb1
  have HS1 := Lib.hid hs1
  clear hd1 hb1 hs1 HR HL
  go_wp2_with fail
  refine (bucket_made _ _ HD1.out).mono ?_
  rintro e w2 ⟨x, hok, ht, rfl, hd2, hk2⟩
  have HB2 := Lib.hid (HB1.out.trans (hk2.toBelow (Nat.le_refl _) (by have := HS1.out; omega)))
  have HO := Lib.hid hok
  clear hd2 hk2 HD1 HB1 HS1 hok
  unfold Bk.v
  go_wp2_with fail
  have RW : IsRow .i64 ((w2.alloc (Obj.cells #[Value.int IntKind.i64 x.r, Value.int IntKind.i64 x.p, Value.int IntKind.i64 x.s, Value.int IntKind.i64 x.l, Value.int IntKind.i64 x.t] 47)).alloc (Obj.cells #[Value.int IntKind.i64 a1] 3)) (some ⟨w2.heap.size + 1, 0, none⟩) 1 1 [a1] := by
    refine .inr ⟨_, rfl, Nat.le_refl _, by unfold maxLen; omega, rfl, fun i hi => ?_, fun m hm => ?_⟩
    · obtain rfl : i = 0 := by simp at hi; omega
      simp [go_sem, Addr.add]
    · simp at hm; subst hm; exact WN.out
  refine (roll_any _ 1 1 [a1] _ RW).mono ?_
  clear RW
  rintro e w3 ⟨rfl, hd3, hb3, hs3⟩
  simp at hd3 hs3
  have K3 := Lib.hid (((BkAt.new w2 x 47).alloc _).below hb3 ((BkAt.new w2 x 47).alloc _).lt)
  have HB3 := Lib.hid (((HB2.out.alloc HB2.out.size _).alloc (HB2.out.alloc HB2.out.size _).size _).trans (hb3.mono ((HB2.out.alloc HB2.out.size _).alloc (HB2.out.alloc HB2.out.size _).size _).size))
  have HD3 := Lib.hid hd3
  have hw2 : w.heap.size ≤ w2.heap.size := HB2.out.size
  clear hd3 hb3 hs3 HB2
  simp only [World.size_alloc]
  go_wp2_with fail
  refine (next_any _ 80 _ HD3.out (by omega)).mono ?_
  rintro e w4 ⟨k, k0, k1, rfl, hd4, hr4⟩
  have k2 : k < 80 := by omega
  have K4 := Lib.hid (K3.out.rolled hr4 (by omega))
  have HB4 := Lib.hid (HB3.out.trans (hr4.below (by omega)))
  clear hd4 hr4 K3 HB3 HD3 k1
  generalize w2.heap.size = g at *
  go_wp2_with fail
  have RW : IsRow .i64 (w4.alloc (Obj.cells #[Value.int IntKind.i64 a2] 3)) (some ⟨w4.heap.size, 0, none⟩) 1 1 [a2] := by
    refine .inr ⟨_, rfl, Nat.le_refl _, by unfold maxLen; omega, rfl, fun i hi => ?_, fun m hm => ?_⟩
    · obtain rfl : i = 0 := by simp at hi; omega
      simp [go_sem, Addr.add]
    · simp at hm; subst hm; exact WM.out
  refine (roll_any _ 1 1 [a2] _ RW).mono ?_
  clear RW
  rintro e w5 ⟨rfl, hd5, hb5, hs5⟩
  simp at hd5 hs5
  have K5 := Lib.hid ((K4.out.alloc _).below hb5 (K4.out.alloc _).lt)
  have HB5 := Lib.hid ((HB4.out.alloc HB4.out.size _).trans (hb5.mono (HB4.out.alloc HB4.out.size _).size))
  have HD5 := Lib.hid hd5
  have hg4 : g < w4.heap.size := K4.out.lt
  have hw4 : w.heap.size ≤ w4.heap.size := HB4.out.size
  clear hd5 hb5 hs5 HB4 K4
  simp only [World.size_alloc]
  go_wp2_with fail
  refine (next_any _ 40 _ HD5.out (by omega)).mono ?_
  rintro e w6 ⟨m, m0, m1, rfl, hd6, hr6⟩
  have m2 : m < 40 := by omega
  have K := Lib.hid (K5.out.rolled hr6 (by omega))
  have HB := Lib.hid (HB5.out.trans (hr6.below (by omega)))
  clear hd6 hr6 K5 HB5 HD5 m1 hg4 hw4
  obtain ⟨c0, c1, c2, c3, c4, f0, f1, f2, f3, f4, lt0⟩ := K.out
  have HM := Lib.hid (waits_more x k (k + m) HO.out k0 (by omega) (by omega))
  have HT := Lib.hid (fun hr h2 => waits_rate x k m HO.out hr m0 h2 k0 (by omega))
  have CW1 := Lib.hid (fun w => when_any x k w)
  have CW2 := Lib.hid (fun w => when_any x (k + m) w)
  obtain ⟨s, e0, hse⟩ : ∃ s e0, bwhen x k = (s, e0) := ⟨_, _, rfl⟩
  obtain ⟨t, e1, hte⟩ : ∃ t e1, bwhen x (k + m) = (t, e1) := ⟨_, _, rfl⟩
  rw [hse] at HM HT CW1
  rw [hte] at HM CW2
  simp only [Bk.v] at CW1 CW2
  clear hse hte
  by_cases he1 : e1 = 0
  · obtain ⟨h1, h2⟩ := HM.out he1
    simp only at h1 h2
    subst h1
    subst he1
    by_cases hr : x.r = 4611686018427387904
    · have hrb : (x.r == 4611686018427387904) = true := by simp [hr]
      clear hr HT
      go_wp2_with fail
      refine (CW1.out _).mono ?_
      rintro e w7 ⟨rfl, hb7⟩
      have Kn := Lib.hid (K.out.below hb7 K.out.lt)
      have HBn := Lib.hid (HB.out.trans (hb7.mono HB.out.size))
      clear c0 c1 c2 c3 c4 f0 f1 f2 f3 f4 lt0
      clear K HB hb7
      have K := Kn
      have HB := HBn
      clear Kn HBn
      obtain ⟨c0, c1, c2, c3, c4, f0, f1, f2, f3, f4, lt0⟩ := K.out
      go_wp2_with fail
      refine (CW2.out _).mono ?_
      rintro e w8 ⟨rfl, hb8⟩
      have Kn := Lib.hid (K.out.below hb8 K.out.lt)
      have HBn := Lib.hid (HB.out.trans (hb8.mono HB.out.size))
      clear c0 c1 c2 c3 c4 f0 f1 f2 f3 f4 lt0
      clear K HB hb8
      have K := Kn
      have HB := HBn
      clear Kn HBn
      obtain ⟨c0, c1, c2, c3, c4, f0, f1, f2, f3, f4, lt0⟩ := K.out
      go_wp2_with fail
      refine (bsane _).mono ?_
      rintro e w9 ⟨rfl, hb9⟩
      have Kn := Lib.hid (K.out.below hb9 K.out.lt)
      have HBn := Lib.hid (HB.out.trans (hb9.mono HB.out.size))
      clear c0 c1 c2 c3 c4 f0 f1 f2 f3 f4 lt0
      clear K HB hb9
      have K := Kn
      have HB := HBn
      clear Kn HBn
      obtain ⟨c0, c1, c2, c3, c4, f0, f1, f2, f3, f4, lt0⟩ := K.out
      go_wp2
      go_ret
      exact ⟨rfl, HB.out⟩
    · have hrb : (x.r == 4611686018427387904) = false := by simp [hr]
      obtain ⟨o1, o2, o3, o4, o5, o6, o7, o8, o9, o10, o11⟩ := ok_shut x HO.out hr
      clear o1 o2 o3 o4 o7 o8 o9 o10 o11
      by_cases hx : 1073741824 < x.r + m
      · clear hr HT
        go_wp2_with fail
        refine (CW1.out _).mono ?_
        rintro e w7 ⟨rfl, hb7⟩
        have Kn := Lib.hid (K.out.below hb7 K.out.lt)
        have HBn := Lib.hid (HB.out.trans (hb7.mono HB.out.size))
        clear c0 c1 c2 c3 c4 f0 f1 f2 f3 f4 lt0
        clear K HB hb7
        have K := Kn
        have HB := HBn
        clear Kn HBn
        obtain ⟨c0, c1, c2, c3, c4, f0, f1, f2, f3, f4, lt0⟩ := K.out
        go_wp2_with fail
        refine (CW2.out _).mono ?_
        rintro e w8 ⟨rfl, hb8⟩
        have Kn := Lib.hid (K.out.below hb8 K.out.lt)
        have HBn := Lib.hid (HB.out.trans (hb8.mono HB.out.size))
        clear c0 c1 c2 c3 c4 f0 f1 f2 f3 f4 lt0
        clear K HB hb8
        have K := Kn
        have HB := HBn
        clear Kn HBn
        obtain ⟨c0, c1, c2, c3, c4, f0, f1, f2, f3, f4, lt0⟩ := K.out
        go_wp2_with fail
        refine (bsane _).mono ?_
        rintro e w9 ⟨rfl, hb9⟩
        have Kn := Lib.hid (K.out.below hb9 K.out.lt)
        have HBn := Lib.hid (HB.out.trans (hb9.mono HB.out.size))
        clear c0 c1 c2 c3 c4 f0 f1 f2 f3 f4 lt0
        clear K HB hb9
        have K := Kn
        have HB := HBn
        clear Kn HBn
        obtain ⟨c0, c1, c2, c3, c4, f0, f1, f2, f3, f4, lt0⟩ := K.out
        go_wp2
        go_ret
        exact ⟨rfl, HB.out⟩
      · have hx2 : x.r + m ≤ 1073741824 := by omega
        have CW3 := Lib.hid (fun w => when_any { x with r := x.r + m } k w)
        have HU := Lib.hid (HT.out hr hx2)
        obtain ⟨u, e2, hue⟩ : ∃ u e2, bwhen { x with r := x.r + m } k = (u, e2) := ⟨_, _, rfl⟩
        rw [hue] at CW3 HU
        simp only [Bk.v] at CW3
        clear hue hr HT hx
        obtain ⟨q1, q2⟩ := HU.out rfl
        simp only at q1 q2
        subst q1
        go_wp2_with fail
        refine (CW1.out _).mono ?_
        rintro e w7 ⟨rfl, hb7⟩
        have Kn := Lib.hid (K.out.below hb7 K.out.lt)
        have HBn := Lib.hid (HB.out.trans (hb7.mono HB.out.size))
        clear c0 c1 c2 c3 c4 f0 f1 f2 f3 f4 lt0
        clear K HB hb7
        have K := Kn
        have HB := HBn
        clear Kn HBn
        obtain ⟨c0, c1, c2, c3, c4, f0, f1, f2, f3, f4, lt0⟩ := K.out
        go_wp2_with fail
        refine (CW2.out _).mono ?_
        rintro e w8 ⟨rfl, hb8⟩
        have Kn := Lib.hid (K.out.below hb8 K.out.lt)
        have HBn := Lib.hid (HB.out.trans (hb8.mono HB.out.size))
        clear c0 c1 c2 c3 c4 f0 f1 f2 f3 f4 lt0
        clear K HB hb8
        have K := Kn
        have HB := HBn
        clear Kn HBn
        obtain ⟨c0, c1, c2, c3, c4, f0, f1, f2, f3, f4, lt0⟩ := K.out
        go_wp2_with fail
        refine (CW3.out _).mono ?_
        rintro e w9 ⟨rfl, hb9⟩
        have Kn := Lib.hid ((K.out.set0 (x.r + m)).below hb9 (K.out.set0 (x.r + m)).lt)
        have HS1 := HB.out.setCell (p := ⟨g, 0, none⟩) hw2 (Value.int IntKind.i64 (x.r + m))
        have HBn := Lib.hid (HS1.trans (hb9.mono HS1.size))
        clear c0 c1 c2 c3 c4 f0 f1 f2 f3 f4 lt0
        clear K HB hb9 HS1
        have K := Kn
        have HB := HBn
        clear Kn HBn
        obtain ⟨c0, c1, c2, c3, c4, f0, f1, f2, f3, f4, lt0⟩ := K.out
        simp only at c0 c1 c2 c3 c4
        go_wp2_with fail
        refine (bsane _).mono ?_
        rintro e w10 ⟨rfl, hb10⟩
        have Kn := Lib.hid (K.out.below hb10 K.out.lt)
        have HBn := Lib.hid (HB.out.trans (hb10.mono HB.out.size))
        clear c0 c1 c2 c3 c4 f0 f1 f2 f3 f4 lt0
        clear K HB hb10
        have K := Kn
        have HB := HBn
        clear Kn HBn
        obtain ⟨c0, c1, c2, c3, c4, f0, f1, f2, f3, f4, lt0⟩ := K.out
        go_wp2
        go_ret
        exact ⟨rfl, HB.out⟩
  · have hf1 : (e1 == 0) = false := by simp [he1]
    have hf2 : (e1 != 0) = true := by simp [he1]
    clear he1 HM
    by_cases he0 : e0 = 0
    · subst he0
      by_cases hr : x.r = 4611686018427387904
      · have hrb : (x.r == 4611686018427387904) = true := by simp [hr]
        clear hr HT
        go_wp2_with fail
        refine (CW1.out _).mono ?_
        rintro e w7 ⟨rfl, hb7⟩
        have Kn := Lib.hid (K.out.below hb7 K.out.lt)
        have HBn := Lib.hid (HB.out.trans (hb7.mono HB.out.size))
        clear c0 c1 c2 c3 c4 f0 f1 f2 f3 f4 lt0
        clear K HB hb7
        have K := Kn
        have HB := HBn
        clear Kn HBn
        obtain ⟨c0, c1, c2, c3, c4, f0, f1, f2, f3, f4, lt0⟩ := K.out
        go_wp2_with fail
        refine (CW2.out _).mono ?_
        rintro e w8 ⟨rfl, hb8⟩
        have Kn := Lib.hid (K.out.below hb8 K.out.lt)
        have HBn := Lib.hid (HB.out.trans (hb8.mono HB.out.size))
        clear c0 c1 c2 c3 c4 f0 f1 f2 f3 f4 lt0
        clear K HB hb8
        have K := Kn
        have HB := HBn
        clear Kn HBn
        obtain ⟨c0, c1, c2, c3, c4, f0, f1, f2, f3, f4, lt0⟩ := K.out
        go_wp2_with fail
        refine (bsane _).mono ?_
        rintro e w9 ⟨rfl, hb9⟩
        have Kn := Lib.hid (K.out.below hb9 K.out.lt)
        have HBn := Lib.hid (HB.out.trans (hb9.mono HB.out.size))
        clear c0 c1 c2 c3 c4 f0 f1 f2 f3 f4 lt0
        clear K HB hb9
        have K := Kn
        have HB := HBn
        clear Kn HBn
        obtain ⟨c0, c1, c2, c3, c4, f0, f1, f2, f3, f4, lt0⟩ := K.out
        go_wp2
        go_ret
        exact ⟨rfl, HB.out⟩
      · have hrb : (x.r == 4611686018427387904) = false := by simp [hr]
        obtain ⟨o1, o2, o3, o4, o5, o6, o7, o8, o9, o10, o11⟩ := ok_shut x HO.out hr
        clear o1 o2 o3 o4 o7 o8 o9 o10 o11
        by_cases hx : 1073741824 < x.r + m
        · clear hr HT
          go_wp2_with fail
          refine (CW1.out _).mono ?_
          rintro e w7 ⟨rfl, hb7⟩
          have Kn := Lib.hid (K.out.below hb7 K.out.lt)
          have HBn := Lib.hid (HB.out.trans (hb7.mono HB.out.size))
          clear c0 c1 c2 c3 c4 f0 f1 f2 f3 f4 lt0
          clear K HB hb7
          have K := Kn
          have HB := HBn
          clear Kn HBn
          obtain ⟨c0, c1, c2, c3, c4, f0, f1, f2, f3, f4, lt0⟩ := K.out
          go_wp2_with fail
          refine (CW2.out _).mono ?_
          rintro e w8 ⟨rfl, hb8⟩
          have Kn := Lib.hid (K.out.below hb8 K.out.lt)
          have HBn := Lib.hid (HB.out.trans (hb8.mono HB.out.size))
          clear c0 c1 c2 c3 c4 f0 f1 f2 f3 f4 lt0
          clear K HB hb8
          have K := Kn
          have HB := HBn
          clear Kn HBn
          obtain ⟨c0, c1, c2, c3, c4, f0, f1, f2, f3, f4, lt0⟩ := K.out
          go_wp2_with fail
          refine (bsane _).mono ?_
          rintro e w9 ⟨rfl, hb9⟩
          have Kn := Lib.hid (K.out.below hb9 K.out.lt)
          have HBn := Lib.hid (HB.out.trans (hb9.mono HB.out.size))
          clear c0 c1 c2 c3 c4 f0 f1 f2 f3 f4 lt0
          clear K HB hb9
          have K := Kn
          have HB := HBn
          clear Kn HBn
          obtain ⟨c0, c1, c2, c3, c4, f0, f1, f2, f3, f4, lt0⟩ := K.out
          go_wp2
          go_ret
          exact ⟨rfl, HB.out⟩
        · have hx2 : x.r + m ≤ 1073741824 := by omega
          have CW3 := Lib.hid (fun w => when_any { x with r := x.r + m } k w)
          have HU := Lib.hid (HT.out hr hx2)
          obtain ⟨u, e2, hue⟩ : ∃ u e2, bwhen { x with r := x.r + m } k = (u, e2) := ⟨_, _, rfl⟩
          rw [hue] at CW3 HU
          simp only [Bk.v] at CW3
          clear hue hr HT hx
          obtain ⟨q1, q2⟩ := HU.out rfl
          simp only at q1 q2
          subst q1
          go_wp2_with fail
          refine (CW1.out _).mono ?_
          rintro e w7 ⟨rfl, hb7⟩
          have Kn := Lib.hid (K.out.below hb7 K.out.lt)
          have HBn := Lib.hid (HB.out.trans (hb7.mono HB.out.size))
          clear c0 c1 c2 c3 c4 f0 f1 f2 f3 f4 lt0
          clear K HB hb7
          have K := Kn
          have HB := HBn
          clear Kn HBn
          obtain ⟨c0, c1, c2, c3, c4, f0, f1, f2, f3, f4, lt0⟩ := K.out
          go_wp2_with fail
          refine (CW2.out _).mono ?_
          rintro e w8 ⟨rfl, hb8⟩
          have Kn := Lib.hid (K.out.below hb8 K.out.lt)
          have HBn := Lib.hid (HB.out.trans (hb8.mono HB.out.size))
          clear c0 c1 c2 c3 c4 f0 f1 f2 f3 f4 lt0
          clear K HB hb8
          have K := Kn
          have HB := HBn
          clear Kn HBn
          obtain ⟨c0, c1, c2, c3, c4, f0, f1, f2, f3, f4, lt0⟩ := K.out
          go_wp2_with fail
          refine (CW3.out _).mono ?_
          rintro e w9 ⟨rfl, hb9⟩
          have Kn := Lib.hid ((K.out.set0 (x.r + m)).below hb9 (K.out.set0 (x.r + m)).lt)
          have HS1 := HB.out.setCell (p := ⟨g, 0, none⟩) hw2 (Value.int IntKind.i64 (x.r + m))
          have HBn := Lib.hid (HS1.trans (hb9.mono HS1.size))
          clear c0 c1 c2 c3 c4 f0 f1 f2 f3 f4 lt0
          clear K HB hb9 HS1
          have K := Kn
          have HB := HBn
          clear Kn HBn
          obtain ⟨c0, c1, c2, c3, c4, f0, f1, f2, f3, f4, lt0⟩ := K.out
          simp only at c0 c1 c2 c3 c4
          go_wp2_with fail
          refine (bsane _).mono ?_
          rintro e w10 ⟨rfl, hb10⟩
          have Kn := Lib.hid (K.out.below hb10 K.out.lt)
          have HBn := Lib.hid (HB.out.trans (hb10.mono HB.out.size))
          clear c0 c1 c2 c3 c4 f0 f1 f2 f3 f4 lt0
          clear K HB hb10
          have K := Kn
          have HB := HBn
          clear Kn HBn
          obtain ⟨c0, c1, c2, c3, c4, f0, f1, f2, f3, f4, lt0⟩ := K.out
          go_wp2
          go_ret
          exact ⟨rfl, HB.out⟩
    · have hg1 : (e0 == 0) = false := by simp [he0]
      have hg2 : (e0 != 0) = true := by simp [he0]
      clear he0
      by_cases hr : x.r = 4611686018427387904
      · have hrb : (x.r == 4611686018427387904) = true := by simp [hr]
        clear hr HT
        go_wp2_with fail
        refine (CW1.out _).mono ?_
        rintro e w7 ⟨rfl, hb7⟩
        have Kn := Lib.hid (K.out.below hb7 K.out.lt)
        have HBn := Lib.hid (HB.out.trans (hb7.mono HB.out.size))
        clear c0 c1 c2 c3 c4 f0 f1 f2 f3 f4 lt0
        clear K HB hb7
        have K := Kn
        have HB := HBn
        clear Kn HBn
        obtain ⟨c0, c1, c2, c3, c4, f0, f1, f2, f3, f4, lt0⟩ := K.out
        go_wp2_with fail
        refine (CW2.out _).mono ?_
        rintro e w8 ⟨rfl, hb8⟩
        have Kn := Lib.hid (K.out.below hb8 K.out.lt)
        have HBn := Lib.hid (HB.out.trans (hb8.mono HB.out.size))
        clear c0 c1 c2 c3 c4 f0 f1 f2 f3 f4 lt0
        clear K HB hb8
        have K := Kn
        have HB := HBn
        clear Kn HBn
        obtain ⟨c0, c1, c2, c3, c4, f0, f1, f2, f3, f4, lt0⟩ := K.out
        go_wp2_with fail
        refine (bsane _).mono ?_
        rintro e w9 ⟨rfl, hb9⟩
        have Kn := Lib.hid (K.out.below hb9 K.out.lt)
        have HBn := Lib.hid (HB.out.trans (hb9.mono HB.out.size))
        clear c0 c1 c2 c3 c4 f0 f1 f2 f3 f4 lt0
        clear K HB hb9
        have K := Kn
        have HB := HBn
        clear Kn HBn
        obtain ⟨c0, c1, c2, c3, c4, f0, f1, f2, f3, f4, lt0⟩ := K.out
        go_wp2
        go_ret
        exact ⟨rfl, HB.out⟩
      · have hrb : (x.r == 4611686018427387904) = false := by simp [hr]
        obtain ⟨o1, o2, o3, o4, o5, o6, o7, o8, o9, o10, o11⟩ := ok_shut x HO.out hr
        clear o1 o2 o3 o4 o7 o8 o9 o10 o11
        by_cases hx : 1073741824 < x.r + m
        · clear hr HT
          go_wp2_with fail
          refine (CW1.out _).mono ?_
          rintro e w7 ⟨rfl, hb7⟩
          have Kn := Lib.hid (K.out.below hb7 K.out.lt)
          have HBn := Lib.hid (HB.out.trans (hb7.mono HB.out.size))
          clear c0 c1 c2 c3 c4 f0 f1 f2 f3 f4 lt0
          clear K HB hb7
          have K := Kn
          have HB := HBn
          clear Kn HBn
          obtain ⟨c0, c1, c2, c3, c4, f0, f1, f2, f3, f4, lt0⟩ := K.out
          go_wp2_with fail
          refine (CW2.out _).mono ?_
          rintro e w8 ⟨rfl, hb8⟩
          have Kn := Lib.hid (K.out.below hb8 K.out.lt)
          have HBn := Lib.hid (HB.out.trans (hb8.mono HB.out.size))
          clear c0 c1 c2 c3 c4 f0 f1 f2 f3 f4 lt0
          clear K HB hb8
          have K := Kn
          have HB := HBn
          clear Kn HBn
          obtain ⟨c0, c1, c2, c3, c4, f0, f1, f2, f3, f4, lt0⟩ := K.out
          go_wp2_with fail
          refine (bsane _).mono ?_
          rintro e w9 ⟨rfl, hb9⟩
          have Kn := Lib.hid (K.out.below hb9 K.out.lt)
          have HBn := Lib.hid (HB.out.trans (hb9.mono HB.out.size))
          clear c0 c1 c2 c3 c4 f0 f1 f2 f3 f4 lt0
          clear K HB hb9
          have K := Kn
          have HB := HBn
          clear Kn HBn
          obtain ⟨c0, c1, c2, c3, c4, f0, f1, f2, f3, f4, lt0⟩ := K.out
          go_wp2
          go_ret
          exact ⟨rfl, HB.out⟩
        · have hx2 : x.r + m ≤ 1073741824 := by omega
          have CW3 := Lib.hid (fun w => when_any { x with r := x.r + m } k w)
          have HU := Lib.hid (HT.out hr hx2)
          obtain ⟨u, e2, hue⟩ : ∃ u e2, bwhen { x with r := x.r + m } k = (u, e2) := ⟨_, _, rfl⟩
          rw [hue] at CW3 HU
          simp only [Bk.v] at CW3
          clear hue hr HT hx
          
          
          
          go_wp2_with fail
          refine (CW1.out _).mono ?_
          rintro e w7 ⟨rfl, hb7⟩
          have Kn := Lib.hid (K.out.below hb7 K.out.lt)
          have HBn := Lib.hid (HB.out.trans (hb7.mono HB.out.size))
          clear c0 c1 c2 c3 c4 f0 f1 f2 f3 f4 lt0
          clear K HB hb7
          have K := Kn
          have HB := HBn
          clear Kn HBn
          obtain ⟨c0, c1, c2, c3, c4, f0, f1, f2, f3, f4, lt0⟩ := K.out
          go_wp2_with fail
          refine (CW2.out _).mono ?_
          rintro e w8 ⟨rfl, hb8⟩
          have Kn := Lib.hid (K.out.below hb8 K.out.lt)
          have HBn := Lib.hid (HB.out.trans (hb8.mono HB.out.size))
          clear c0 c1 c2 c3 c4 f0 f1 f2 f3 f4 lt0
          clear K HB hb8
          have K := Kn
          have HB := HBn
          clear Kn HBn
          obtain ⟨c0, c1, c2, c3, c4, f0, f1, f2, f3, f4, lt0⟩ := K.out
          go_wp2_with fail
          refine (CW3.out _).mono ?_
          rintro e w9 ⟨rfl, hb9⟩
          have Kn := Lib.hid ((K.out.set0 (x.r + m)).below hb9 (K.out.set0 (x.r + m)).lt)
          have HS1 := HB.out.setCell (p := ⟨g, 0, none⟩) hw2 (Value.int IntKind.i64 (x.r + m))
          have HBn := Lib.hid (HS1.trans (hb9.mono HS1.size))
          clear c0 c1 c2 c3 c4 f0 f1 f2 f3 f4 lt0
          clear K HB hb9 HS1
          have K := Kn
          have HB := HBn
          clear Kn HBn
          obtain ⟨c0, c1, c2, c3, c4, f0, f1, f2, f3, f4, lt0⟩ := K.out
          simp only at c0 c1 c2 c3 c4
          go_wp2_with fail
          refine (bsane _).mono ?_
          rintro e w10 ⟨rfl, hb10⟩
          have Kn := Lib.hid (K.out.below hb10 K.out.lt)
          have HBn := Lib.hid (HB.out.trans (hb10.mono HB.out.size))
          clear c0 c1 c2 c3 c4 f0 f1 f2 f3 f4 lt0
          clear K HB hb10
          have K := Kn
          have HB := HBn
          clear Kn HBn
          obtain ⟨c0, c1, c2, c3, c4, f0, f1, f2, f3, f4, lt0⟩ := K.out
          go_wp2
          go_ret
          exact ⟨rfl, HB.out⟩

set_option maxHeartbeats 400000 in
theorem bwaits_heavy (a0 : Option Addr) (len0 cap0 : Nat) (a1 a2 : Int) (w : World) (hheavy : ¬ len0 ≤ 600) :
    Calls Try.prog 8 #[.slice a0 len0 cap0, .int .i64 a1, .int .i64 a2] w fun e w' => e = .returned (.bool true) ∧ Below w.heap.size w w' := by
  have hd : decide (len0 ≤ 600) = false := by simpa using hheavy
  have HL := Lib.hid (light_any a0 len0 cap0 w)
  rw [hd] at HL
  clear hd
  go_enter Try.func8, Try.ntmps8
  go_wp2_with fail
  refine HL.out.mono ?_
  rintro e w' ⟨rfl, rfl⟩
  go_wp2_with fail
  refine (bsane _).mono ?_
  rintro e w5 ⟨rfl, h5⟩
  go_wp2
  go_ret
  exact ⟨rfl, h5⟩
end Go.Proofs.Ytjfknijaohemgab
