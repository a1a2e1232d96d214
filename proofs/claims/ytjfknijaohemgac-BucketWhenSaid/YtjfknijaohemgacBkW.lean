/- The walk of BucketWhen. -/
import Derived.Test.YtjfknijaohemgacBkm
import Derived.Test.YtjfknijaohemgacBks
namespace Go.Proofs.Ytjfknijaohemgac
open Go.RowKit
set_option linter.unusedVariables false

set_option maxRecDepth 100000 in
set_option maxHeartbeats 2000000 in
theorem bwhen_walk (a0 : Option Addr) (len0 cap0 : Nat) (z0 : List Int) (n : Int) (w : World) (w0 : IsRow .i64 w a0 len0 cap0 z0) (hlight : len0 ≤ 600) (wn : (Lit.int .i64 n).wf = true) :
    Calls Try.prog 5 #[.slice a0 len0 cap0, .int .i64 n] w fun e w' => e = .returned (.bool true) ∧ Below w.heap.size w w' := by
  have hd : decide (len0 ≤ 600) = true := by simpa using hlight
  have HR := Lib.hid (roll_any a0 len0 cap0 z0 w w0)
  have HL := Lib.hid (light_any a0 len0 cap0 w)
  have WN := Lib.hid wn
  rw [hd] at HL
  clear w0 hd wn
  go_enter Try.func5, Try.ntmps5
  go_wp2_with fail
  refine HL.out.mono ?_
  rintro e w' ⟨rfl, rfl⟩
  go_wp2_with fail
  refine HR.out.mono ?_
  rintro e w1 ⟨rfl, hd1, hb1, hs1⟩
  have HD1 := Lib.hid hd1
  have HB1 := Lib.hid hb1
  have HS1 := Lib.hid hs1
  clear hd1 hb1 hs1 HR HL
  go_wp2_with fail
  refine (bucket_made _ _ HD1.out).mono ?_
  rintro e w2 ⟨x, hok, ht, rfl, hd2, hk2⟩
  have HB2 := Lib.hid (HB1.out.trans (hk2.toBelow (Nat.le_refl _) (by have := HS1.out; omega)))
  have HO := Lib.hid hok
  clear hd2 hk2 HD1 HB1 HS1 hok
  unfold Bk.v
  go_wp2_with fail
  have RW : IsRow .i64 ((w2.alloc (Obj.cells #[Value.int IntKind.i64 x.r, Value.int IntKind.i64 x.p, Value.int IntKind.i64 x.s, Value.int IntKind.i64 x.l, Value.int IntKind.i64 x.t] 24)).alloc (Obj.cells #[Value.int IntKind.i64 n] 3)) (some ⟨w2.heap.size + 1, 0, none⟩) 1 1 [n] := by
    refine .inr ⟨_, rfl, Nat.le_refl _, by unfold maxLen; omega, rfl, fun i hi => ?_, fun m hm => ?_⟩
    · obtain rfl : i = 0 := by simp at hi; omega
      simp [go_sem, Addr.add]
    · simp at hm; subst hm; exact WN.out
  refine (roll_any _ 1 1 [n] _ RW).mono ?_
  clear RW
  rintro e w3 ⟨rfl, hd3, hb3, hs3⟩
  simp at hd3 hs3
  have K3 := Lib.hid (((BkAt.new w2 x 24).alloc _).below hb3 ((BkAt.new w2 x 24).alloc _).lt)
  have HB3 := Lib.hid (((HB2.out.alloc HB2.out.size _).alloc (HB2.out.alloc HB2.out.size _).size _).trans (hb3.mono ((HB2.out.alloc HB2.out.size _).alloc (HB2.out.alloc HB2.out.size _).size _).size))
  have HD3 := Lib.hid hd3
  have hw2 : w.heap.size ≤ w2.heap.size := HB2.out.size
  clear hd3 hb3 hs3 HB2
  simp only [World.size_alloc]
  go_wp2_with fail
  refine (next_any _ 150 _ HD3.out (by omega)).mono ?_
  rintro e w4 ⟨k, k0, k1, rfl, hd4, hr4⟩
  have k2 : k < 150 := by omega
  have K := Lib.hid (K3.out.rolled hr4 (by omega))
  have HB := Lib.hid (HB3.out.trans (hr4.below (by omega)))
  clear hd4 hr4 K3 HB3 HD3 k1
  generalize w2.heap.size = g at *
  obtain ⟨c0, c1, c2, c3, c4, f0, f1, f2, f3, f4, lt0⟩ := K.out
  have HW := Lib.hid (when_ok x k HO.out k0 (by omega))
  have CW := Lib.hid (fun w => when_any x k w)
  obtain ⟨t, e0, hte⟩ : ∃ t e0, bwhen x k = (t, e0) := ⟨_, _, rfl⟩
  rw [hte] at HW CW
  simp only [Bk.v] at CW
  clear hte
  by_cases he : e0 = 0
  · obtain ⟨h1, h2, h3, h4⟩ := HW.out.2 he
    simp only at h1 h2 h3 h4
    have CT := Lib.hid (fun w => take_any x t k w)
    obtain ⟨c, e1, hce⟩ : ∃ c e1, btake x t k = (c, e1) := ⟨_, _, rfl⟩
    rw [hce] at CT h1
    simp only at h1
    subst h1
    subst he
    simp only [Bk.v] at CT
    have H4 := Lib.hid h4
    have x0 : 0 ≤ x.t := HO.out.2.2.1
    clear hce h4 HW
    by_cases hgt : x.t < t
    · have h5 := H4.out hgt
      have CU := Lib.hid (fun w => take_any x (t - 1) k w)
      obtain ⟨d, e2, hde⟩ : ∃ d e2, btake x (t - 1) k = (d, e2) := ⟨_, _, rfl⟩
      rw [hde] at CU h5
      simp only at h5
      subst h5
      simp only [Bk.v] at CU
      clear hde H4 h2
      go_wp2_with fail
      refine (CW.out _).mono ?_
      rintro e w5 ⟨rfl, hb5⟩
      have Kn := Lib.hid (K.out.below hb5 K.out.lt)
      have HBn := Lib.hid (HB.out.trans (hb5.mono HB.out.size))
      clear c0 c1 c2 c3 c4 f0 f1 f2 f3 f4 lt0
      clear K HB hb5
      have K := Kn
      have HB := HBn
      clear Kn HBn
      obtain ⟨c0, c1, c2, c3, c4, f0, f1, f2, f3, f4, lt0⟩ := K.out
      go_wp2_with fail
      refine (CT.out _).mono ?_
      rintro e w6 ⟨rfl, hb6⟩
      have Kn := Lib.hid (K.out.below hb6 K.out.lt)
      have HBn := Lib.hid (HB.out.trans (hb6.mono HB.out.size))
      clear c0 c1 c2 c3 c4 f0 f1 f2 f3 f4 lt0
      clear K HB hb6
      have K := Kn
      have HB := HBn
      clear Kn HBn
      obtain ⟨c0, c1, c2, c3, c4, f0, f1, f2, f3, f4, lt0⟩ := K.out
      go_wp2_with fail
      refine (CU.out _).mono ?_
      rintro e w7 ⟨rfl, hb7⟩
      have Kn := Lib.hid ((K.out.alloc _).below hb7 (K.out.alloc _).lt)
      have HBn := Lib.hid ((HB.out.alloc HB.out.size _).trans (hb7.mono (HB.out.alloc HB.out.size _).size))
      clear c0 c1 c2 c3 c4 f0 f1 f2 f3 f4 lt0
      clear K HB hb7
      have K := Kn
      have HB := HBn
      clear Kn HBn
      obtain ⟨c0, c1, c2, c3, c4, f0, f1, f2, f3, f4, lt0⟩ := K.out
      go_wp2_with fail
      refine (bsane _).mono ?_
      rintro e w8 ⟨rfl, hb8⟩
      have Kn := Lib.hid (K.out.below hb8 K.out.lt)
      have HBn := Lib.hid (HB.out.trans (hb8.mono HB.out.size))
      clear c0 c1 c2 c3 c4 f0 f1 f2 f3 f4 lt0
      clear K HB hb8
      have K := Kn
      have HB := HBn
      clear Kn HBn
      obtain ⟨c0, c1, c2, c3, c4, f0, f1, f2, f3, f4, lt0⟩ := K.out
      go_wp2
      go_ret
      exact ⟨rfl, HB.out⟩
    · have hle : t ≤ x.t := by omega
      clear H4 hgt
      go_wp2_with fail
      refine (CW.out _).mono ?_
      rintro e w5 ⟨rfl, hb5⟩
      have Kn := Lib.hid (K.out.below hb5 K.out.lt)
      have HBn := Lib.hid (HB.out.trans (hb5.mono HB.out.size))
      clear c0 c1 c2 c3 c4 f0 f1 f2 f3 f4 lt0
      clear K HB hb5
      have K := Kn
      have HB := HBn
      clear Kn HBn
      obtain ⟨c0, c1, c2, c3, c4, f0, f1, f2, f3, f4, lt0⟩ := K.out
      go_wp2_with fail
      refine (CT.out _).mono ?_
      rintro e w6 ⟨rfl, hb6⟩
      have Kn := Lib.hid (K.out.below hb6 K.out.lt)
      have HBn := Lib.hid (HB.out.trans (hb6.mono HB.out.size))
      clear c0 c1 c2 c3 c4 f0 f1 f2 f3 f4 lt0
      clear K HB hb6
      have K := Kn
      have HB := HBn
      clear Kn HBn
      obtain ⟨c0, c1, c2, c3, c4, f0, f1, f2, f3, f4, lt0⟩ := K.out
      go_wp2_with fail
      refine (bsane _).mono ?_
      rintro e w7 ⟨rfl, hb7⟩
      have Kn := Lib.hid ((K.out.alloc _).below hb7 (K.out.alloc _).lt)
      have HBn := Lib.hid ((HB.out.alloc HB.out.size _).trans (hb7.mono (HB.out.alloc HB.out.size _).size))
      clear c0 c1 c2 c3 c4 f0 f1 f2 f3 f4 lt0
      clear K HB hb7
      have K := Kn
      have HB := HBn
      clear Kn HBn
      obtain ⟨c0, c1, c2, c3, c4, f0, f1, f2, f3, f4, lt0⟩ := K.out
      go_wp2
      go_ret
      exact ⟨rfl, HB.out⟩
  · obtain ⟨h1, h2⟩ := HW.out.1 he
    simp only at h1
    have CT := Lib.hid (fun w => take_any x 1048576 k w)
    obtain ⟨c, e1, hce⟩ : ∃ c e1, btake x 1048576 k = (c, e1) := ⟨_, _, rfl⟩
    rw [hce] at CT h2
    simp only at h2
    subst h2
    subst h1
    simp only [Bk.v] at CT
    clear hce HW he
    go_wp2_with fail
    refine (CW.out _).mono ?_
    rintro e w5 ⟨rfl, hb5⟩
    have Kn := Lib.hid (K.out.below hb5 K.out.lt)
    have HBn := Lib.hid (HB.out.trans (hb5.mono HB.out.size))
    clear c0 c1 c2 c3 c4 f0 f1 f2 f3 f4 lt0
    clear K HB hb5
    have K := Kn
    have HB := HBn
    clear Kn HBn
    obtain ⟨c0, c1, c2, c3, c4, f0, f1, f2, f3, f4, lt0⟩ := K.out
    go_wp2_with fail
    refine (CT.out _).mono ?_
    rintro e w6 ⟨rfl, hb6⟩
    have Kn := Lib.hid (K.out.below hb6 K.out.lt)
    have HBn := Lib.hid (HB.out.trans (hb6.mono HB.out.size))
    clear c0 c1 c2 c3 c4 f0 f1 f2 f3 f4 lt0
    clear K HB hb6
    have K := Kn
    have HB := HBn
    clear Kn HBn
    obtain ⟨c0, c1, c2, c3, c4, f0, f1, f2, f3, f4, lt0⟩ := K.out
    go_wp2_with fail
    refine (bsane _).mono ?_
    rintro e w7 ⟨rfl, hb7⟩
    have Kn := Lib.hid ((K.out.alloc _).below hb7 (K.out.alloc _).lt)
    have HBn := Lib.hid ((HB.out.alloc HB.out.size _).trans (hb7.mono (HB.out.alloc HB.out.size _).size))
    clear c0 c1 c2 c3 c4 f0 f1 f2 f3 f4 lt0
    clear K HB hb7
    have K := Kn
    have HB := HBn
    clear Kn HBn
    obtain ⟨c0, c1, c2, c3, c4, f0, f1, f2, f3, f4, lt0⟩ := K.out
    go_wp2
    go_ret
    exact ⟨rfl, HB.out⟩

set_option maxHeartbeats 400000 in
theorem bwhen_heavy (a0 : Option Addr) (len0 cap0 : Nat) (n : Int) (w : World) (hheavy : ¬ len0 ≤ 600) :
    Calls Try.prog 5 #[.slice a0 len0 cap0, .int .i64 n] w fun e w' => e = .returned (.bool true) ∧ Below w.heap.size w w' := by
  have hd : decide (len0 ≤ 600) = false := by simpa using hheavy
  have HL := Lib.hid (light_any a0 len0 cap0 w)
  rw [hd] at HL
  clear hd
  go_enter Try.func5, Try.ntmps5
  go_wp2_with fail
  refine HL.out.mono ?_
  rintro e w' ⟨rfl, rfl⟩
  go_wp2_with fail
  refine (bsane _).mono ?_
  rintro e w5 ⟨rfl, h5⟩
  go_wp2
  go_ret
  exact ⟨rfl, h5⟩
end Go.Proofs.Ytjfknijaohemgac
