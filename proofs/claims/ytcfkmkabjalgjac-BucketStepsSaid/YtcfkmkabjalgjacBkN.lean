/- The walk of BucketSteps. -/
import Derived.Test.YtcfkmkabjalgjacBkm
import Derived.Test.YtcfkmkabjalgjacBks
import Derived.Test.YtcfkmkabjalgjacBkn
import Derived.Test.YtcfkmkabjalgjacReg
import Derived.Test.YtcfkmkabjalgjacWk
import Derived.Deep.DeepCutAuto
import Derived.OrdersHeld
import Derived.RegionTactic
namespace Go.Proofs.Ytcfkmkabjalgjac
open Go.RowKit
set_option linter.unusedVariables false
set_option linter.unusedSimpArgs false

/-- A block whose cell holds z. -/
def At (v : World) (h : Nat) (z : Int) : Prop := v.cell? ⟨h, 0, none⟩ = some (.int .i64 z) ∧ h < v.heap.size
theorem At.new (v : World) (z : Int) (T : TypeId) : At (v.alloc (Obj.cells #[Value.int IntKind.i64 z] T)) v.heap.size z := ⟨by simp [go_sem], by simp⟩
theorem At.below {v v' : World} {h B : Nat} {z : Int} (k : At v h z) (hb : Below B v v') (hB : h < B) : At v' h z := ⟨by rw [hb.cell (p := ⟨h, 0, none⟩) hB]; exact k.1, Nat.lt_of_lt_of_le k.2 hb.size⟩
theorem At.alloc {v : World} {h : Nat} {z : Int} (k : At v h z) (o : Obj) : At (v.alloc o) h z := k.below (Below.alloc (Below.refl v.heap.size v) (Nat.le_refl _) o) k.2
theorem At.rolled {v v' : World} {h b : Nat} {z : Int} (k : At v h z) (hr : Rolled b v v') (hn : h ≠ b) : At v' h z := ⟨by rw [hr.cell (p := ⟨h, 0, none⟩) hn]; exact k.1, by rw [hr.size]; exact k.2⟩
theorem At.row {v : World} {h : Nat} {z : Int} (k : At v h z) (hz : (Lit.int .i64 z).wf = true) : IsRow .i64 v (some ⟨h, 0, none⟩) 1 1 [z] := by
  refine .inr ⟨_, rfl, Nat.le_refl _, by unfold maxLen; omega, rfl, fun i hi => ?_, fun m hm => ?_⟩
  · obtain rfl : i = 0 := by simp at hi; omega
    simpa [Addr.add] using k.1
  · simp at hm; subst hm; exact hz
theorem wp_region_H {P : Program} {ops : Array Oper} {Q : Exit → Act → World → Prop} {S : World → Prop} {id : Nat} {a : Act} {w : World} (hm : P.follows .mixedOrders = true)
    (h : wpAnyH P .any ops Q S ops.size (Array.replicate ops.size false) a w.drew) : (Code.region id ops true).wp P Q a w := wp_region_held hm h

set_option maxRecDepth 100000 in
set_option maxHeartbeats 4000000 in
theorem bsteps_walk (a0 : Option Addr) (len0 cap0 : Nat) (z0 : List Int) (a1 a2 : Int) (w : World) (w0 : IsRow .i64 w a0 len0 cap0 z0) (hlight : len0 ≤ 600) (wn : (Lit.int .i64 a1).wf = true) (wm : (Lit.int .i64 a2).wf = true) :
    Calls Try.prog 6 #[.slice a0 len0 cap0, .int .i64 a1, .int .i64 a2] w fun e w' => e = .returned (.bool true) ∧ Below w.heap.size w w' := by
  have hd : decide (len0 ≤ 600) = true := by simpa using hlight
  have HR := Lib.hid (roll_any a0 len0 cap0 z0 w w0)
  have HL := Lib.hid (light_any a0 len0 cap0 w)
  have WN := Lib.hid wn
  have WM := Lib.hid wm
  rw [hd] at HL
  clear w0 hd wn wm
  go_enter Try.func6, Try.ntmps6
  go_wp2_with fail
  refine HL.out.mono ?_
  rintro e w' ⟨rfl, rfl⟩
  go_wp2_with fail
  refine HR.out.mono ?_
  rintro e w1 ⟨rfl, hd1, hb1, hs1⟩
  have HD1 := Lib.hid hd1
  have HB1 := Lib.hid hb1
  have HS1 := Lib.hid hs1
  clear hd1 hb1 hs1 HR HL
  go_wp2_with fail
  refine (bucket_made _ _ HD1.out).mono ?_
  rintro e w2 ⟨x, hok, ht, rfl, hd2, hk2⟩
  have HB2 := Lib.hid (HB1.out.trans (hk2.toBelow (Nat.le_refl _) (by have := HS1.out; omega)))
  have HO := Lib.hid hok
  have HD2 := Lib.hid hd2
  have x3 : 0 ≤ x.t := hok.2.2.1
  have hdg : w.heap.size < w2.heap.size := hd2.lt
  clear hd2 hk2 HD1 HB1 HS1 hok
  unfold Bk.v
  go_upto_region 5 with fail
  have KM := Lib.hid ((BkAt.new w2 x 24).drew)
  have LM := Lib.hid ((HB2.out.alloc HB2.out.size (Obj.cells #[Value.int IntKind.i64 x.r, Value.int IntKind.i64 x.p, Value.int IntKind.i64 x.s, Value.int IntKind.i64 x.l, Value.int IntKind.i64 x.t] 24)).drew)
  have DD := Lib.hid ((HD2.out.alloc (Obj.cells #[Value.int IntKind.i64 x.r, Value.int IntKind.i64 x.p, Value.int IntKind.i64 x.s, Value.int IntKind.i64 x.l, Value.int IntKind.i64 x.t] 24)).drew)
  clear HD2 HB2
  go_cut [1, 2] (fun s1 s2 wx => ∃ k m : Int, 0 ≤ k ∧ k < 50 ∧ 0 ≤ m ∧ m < 50 ∧ s1 = .int .i64 (x.t + k) ∧ s2 = .int .i64 m ∧ Hid (BkAt wx w2.heap.size x) ∧ Hid (Below w.heap.size w wx) ∧ Hid (DiceAt wx w.heap.size))
  case first =>
    generalize w2.heap.size = g at *
    refine wp_region_H (S := fun v => v.cell? ⟨g, 4, none⟩ = some (.int .i64 x.t)) (by kernel_rfl) ?_
    generalize World.drew _ = v0 at *
    refine wpAnyH_take (i := 0) (v := ?_) rfl (by kernel_rfl) (by kernel_rfl) (by kernel_rfl) (fun _ _ _ h => h) (Or.inl ⟨by rfl, ?_⟩) KM.out.c4 ?_
    rotate_left
    · intro v hv
      go_simp
      try (with_reducible rfl)
    try simp only [Act.put, List.setIfInBounds_toArray, List.set_cons_zero, List.set_cons_succ]
    refine wpAnyH_take (i := 1) (v := ?_) rfl (by kernel_rfl) (by kernel_rfl) (by kernel_rfl) (fun _ _ _ h => h) (Or.inl ⟨by rfl, ?_⟩) KM.out.c4 ?_
    rotate_left
    · intro v hv
      go_simp
      try (with_reducible rfl)
    try simp only [Act.put, List.setIfInBounds_toArray, List.set_cons_zero, List.set_cons_succ]
    refine wpAnyH_take (i := 2) (v := ?_) rfl (by kernel_rfl) (by kernel_rfl) (by kernel_rfl) (fun _ _ _ h => h) (Or.inl ⟨by rfl, ?_⟩) KM.out.c4 ?_
    rotate_left
    · intro v hv
      go_simp
      try (with_reducible rfl)
    try simp only [Act.put, List.setIfInBounds_toArray, List.set_cons_zero, List.set_cons_succ]
    refine wpAnyH_take (i := 7) (v := ?_) rfl (by kernel_rfl) (by kernel_rfl) (by kernel_rfl) (fun _ _ _ h => h) (Or.inl ⟨by rfl, ?_⟩) KM.out.c4 ?_
    rotate_left
    · intro v hv
      go_simp
      try (with_reducible rfl)
    try simp only [Act.put, List.setIfInBounds_toArray, List.set_cons_zero, List.set_cons_succ]
    refine wpAnyH_all (rs := [3, 8]) (by kernel_rfl) (by simp) (fun i hi => ?_)
    simp only [List.mem_cons, List.not_mem_nil, or_false] at hi
    rcases hi with rfl | rfl
    · refine wpOp_step rfl (fun K hK => ?_)
      have HK := Lib.hid hK
      clear hK
      go_simp
      have KMn := Lib.hid (KM.out.alloc (Obj.cells #[Value.int IntKind.i64 a1] 3))
      have LMn := Lib.hid (LM.out.alloc LM.out.size (Obj.cells #[Value.int IntKind.i64 a1] 3))
      have DDn := Lib.hid (DD.out.alloc (Obj.cells #[Value.int IntKind.i64 a1] 3))
      have A1 := Lib.hid (At.new v0 a1 3)
      clear KM
      have KM := KMn
      clear KMn
      clear LM
      have LM := LMn
      clear LMn
      clear DD
      have DD := DDn
      clear DDn
      generalize v0.alloc (Obj.cells #[Value.int IntKind.i64 a1] 3) = v1 at *
      generalize v0.heap.size = h1 at *
      refine HK.out _ _ ⟨KM.out.c4, ?_⟩
      clear HK
      try simp only [Act.put, List.setIfInBounds_toArray, List.set_cons_zero, List.set_cons_succ]
      refine wpAnyH_all (rs := [4, 8]) (by kernel_rfl) (by simp) (fun i hi => ?_)
      simp only [List.mem_cons, List.not_mem_nil, or_false] at hi
      rcases hi with rfl | rfl
      · refine wpOp_step rfl (fun K hK => ?_)
        have HK := Lib.hid hK
        clear hK
        go_simp
        refine (roll_any _ 1 1 [a1] _ (A1.out.row WN.out)).mono ?_
        rintro e v2 ⟨rfl, hd, hb, hs⟩
        have KMn := Lib.hid (KM.out.below hb KM.out.lt)
        have LMn := Lib.hid (LM.out.trans (hb.mono LM.out.size))
        have DDn := Lib.hid (DD.out.below hb)
        have D1 := Lib.hid hd
        have gd : g ≠ v1.heap.size := by have := KM.out.lt; omega
        have dd : w.heap.size < v1.heap.size := DD.out.lt
        clear A1 hd hb hs
        clear KM
        have KM := KMn
        clear KMn
        clear LM
        have LM := LMn
        clear LMn
        clear DD
        have DD := DDn
        clear DDn
        generalize v1.heap.size = d1 at *
        refine HK.out _ _ ⟨KM.out.c4, ?_⟩
        clear HK
        try simp only [Act.put, List.setIfInBounds_toArray, List.set_cons_zero, List.set_cons_succ]
        refine wpAnyH_all (rs := [5, 8]) (by kernel_rfl) (by simp) (fun i hi => ?_)
        simp only [List.mem_cons, List.not_mem_nil, or_false] at hi
        rcases hi with rfl | rfl
        · refine wpOp_step rfl (fun K hK => ?_)
          have HK := Lib.hid hK
          clear hK
          go_simp
          refine (next_any d1 50 _ D1.out (by omega)).mono ?_
          rintro e v3 ⟨k, k0, k1, rfl, hd, hr⟩
          have k2 : k < 50 := by omega
          have KMn := Lib.hid (KM.out.rolled hr gd)
          have LMn := Lib.hid (LM.out.trans (hr.below (by omega)))
          have DDn := Lib.hid (DD.out.keep (fun j hj => hr.block j (by omega)) (by rw [hr.size]; exact Nat.le_refl _))
          clear D1 hd hr gd dd k1
          clear KM
          have KM := KMn
          clear KMn
          clear LM
          have LM := LMn
          clear LMn
          clear DD
          have DD := DDn
          clear DDn
          refine HK.out _ _ ⟨KM.out.c4, ?_⟩
          clear HK
          try simp only [Act.put, List.setIfInBounds_toArray, List.set_cons_zero, List.set_cons_succ]
          refine wpAnyH_take (i := 6) (v := ?_) rfl (by kernel_rfl) (by kernel_rfl) (by kernel_rfl) (fun _ _ _ h => h) (Or.inl ⟨by rfl, ?_⟩) KM.out.c4 ?_
          rotate_left
          · intro v hv
            go_simp
            try (with_reducible rfl)
          try simp only [Act.put, List.setIfInBounds_toArray, List.set_cons_zero, List.set_cons_succ]
          refine wpAnyH_all (rs := [8]) (by kernel_rfl) (by simp) (fun i hi => ?_)
          obtain rfl := List.mem_singleton.1 hi
          clear hi
          refine wpOp_step rfl (fun K hK => ?_)
          have HK := Lib.hid hK
          clear hK
          go_simp
          have KMn := Lib.hid (KM.out.alloc (Obj.cells #[Value.int IntKind.i64 a2] 3))
          have LMn := Lib.hid (LM.out.alloc LM.out.size (Obj.cells #[Value.int IntKind.i64 a2] 3))
          have DDn := Lib.hid (DD.out.alloc (Obj.cells #[Value.int IntKind.i64 a2] 3))
          have A2 := Lib.hid (At.new v3 a2 3)
          clear KM
          have KM := KMn
          clear KMn
          clear LM
          have LM := LMn
          clear LMn
          clear DD
          have DD := DDn
          clear DDn
          generalize v3.alloc (Obj.cells #[Value.int IntKind.i64 a2] 3) = v4 at *
          generalize v3.heap.size = h2 at *
          refine HK.out _ _ ⟨KM.out.c4, ?_⟩
          clear HK
          try simp only [Act.put, List.setIfInBounds_toArray, List.set_cons_zero, List.set_cons_succ]
          refine wpAnyH_all (rs := [9]) (by kernel_rfl) (by simp) (fun i hi => ?_)
          obtain rfl := List.mem_singleton.1 hi
          clear hi
          refine wpOp_step rfl (fun K hK => ?_)
          have HK := Lib.hid hK
          clear hK
          go_simp
          refine (roll_any _ 1 1 [a2] _ (A2.out.row WM.out)).mono ?_
          rintro e v5 ⟨rfl, hd, hb, hs⟩
          have KMn := Lib.hid (KM.out.below hb KM.out.lt)
          have LMn := Lib.hid (LM.out.trans (hb.mono LM.out.size))
          have DDn := Lib.hid (DD.out.below hb)
          have D2 := Lib.hid hd
          have gd : g ≠ v4.heap.size := by have := KM.out.lt; omega
          have dd : w.heap.size < v4.heap.size := DD.out.lt
          clear A2 hd hb hs
          clear KM
          have KM := KMn
          clear KMn
          clear LM
          have LM := LMn
          clear LMn
          clear DD
          have DD := DDn
          clear DDn
          generalize v4.heap.size = d2 at *
          refine HK.out _ _ ⟨KM.out.c4, ?_⟩
          clear HK
          try simp only [Act.put, List.setIfInBounds_toArray, List.set_cons_zero, List.set_cons_succ]
          refine wpAnyH_all (rs := [10]) (by kernel_rfl) (by simp) (fun i hi => ?_)
          obtain rfl := List.mem_singleton.1 hi
          clear hi
          refine wpOp_step rfl (fun K hK => ?_)
          have HK := Lib.hid hK
          clear hK
          go_simp
          refine (next_any d2 50 _ D2.out (by omega)).mono ?_
          rintro e v6 ⟨m, m0, m1, rfl, hd, hr⟩
          have m2 : m < 50 := by omega
          have KMn := Lib.hid (KM.out.rolled hr gd)
          have LMn := Lib.hid (LM.out.trans (hr.below (by omega)))
          have DDn := Lib.hid (DD.out.keep (fun j hj => hr.block j (by omega)) (by rw [hr.size]; exact Nat.le_refl _))
          clear D2 hd hr gd dd m1
          clear KM
          have KM := KMn
          clear KMn
          clear LM
          have LM := LMn
          clear LMn
          clear DD
          have DD := DDn
          clear DDn
          refine HK.out _ _ ⟨KM.out.c4, ?_⟩
          clear HK
          try simp only [Act.put, List.setIfInBounds_toArray, List.set_cons_zero, List.set_cons_succ]
          refine wpAnyH_all (rs := [11]) (by kernel_rfl) (by simp) (fun i hi => ?_)
          obtain rfl := List.mem_singleton.1 hi
          clear hi
          refine wpOp_step rfl (fun K hK => ?_)
          have HK := Lib.hid hK
          clear hK
          go_simp
          refine HK.out _ _ ⟨KM.out.c4, ?_⟩
          clear HK
          try simp only [Act.put, List.setIfInBounds_toArray, List.set_cons_zero, List.set_cons_succ]
          refine wpAnyH_all (rs := [12]) (by kernel_rfl) (by simp) (fun i hi => ?_)
          obtain rfl := List.mem_singleton.1 hi
          clear hi
          refine wpOp_step rfl (fun K hK => ?_)
          have HK := Lib.hid hK
          clear hK
          go_simp
          refine HK.out _ _ ⟨KM.out.c4, ?_⟩
          clear HK
          try simp only [Act.put, List.setIfInBounds_toArray, List.set_cons_zero, List.set_cons_succ]
          refine wpAnyH_done (by kernel_rfl) ?_ _
          go_wp2_with fail
          go_meet
          exact ⟨k, m, k0, k2, m0, m2, by rw [show IntKind.i64.wrap (x.t + k) = x.t + k from IntWalk.i64_in _ (by omega)], rfl, KM, LM, DD⟩
        · refine wpOp_step rfl (fun K hK => ?_)
          have HK := Lib.hid hK
          clear hK
          go_simp
          have KMn := Lib.hid (KM.out.alloc (Obj.cells #[Value.int IntKind.i64 a2] 3))
          have LMn := Lib.hid (LM.out.alloc LM.out.size (Obj.cells #[Value.int IntKind.i64 a2] 3))
          have DDn := Lib.hid (DD.out.alloc (Obj.cells #[Value.int IntKind.i64 a2] 3))
          have A2 := Lib.hid (At.new v2 a2 3)
          have D1n := Lib.hid (D1.out.alloc (Obj.cells #[Value.int IntKind.i64 a2] 3))
          have eA2 : v2.heap.size ≠ d1 := by have := D1.out.lt; omega
          clear KM
          have KM := KMn
          clear KMn
          clear LM
          have LM := LMn
          clear LMn
          clear DD
          have DD := DDn
          clear DDn
          clear D1
          have D1 := D1n
          clear D1n
          generalize v2.alloc (Obj.cells #[Value.int IntKind.i64 a2] 3) = v3 at *
          generalize v2.heap.size = h2 at *
          refine HK.out _ _ ⟨KM.out.c4, ?_⟩
          clear HK
          try simp only [Act.put, List.setIfInBounds_toArray, List.set_cons_zero, List.set_cons_succ]
          refine wpAnyH_all (rs := [5]) (by kernel_rfl) (by simp) (fun i hi => ?_)
          obtain rfl := List.mem_singleton.1 hi
          clear hi
          refine wpOp_step rfl (fun K hK => ?_)
          have HK := Lib.hid hK
          clear hK
          go_simp
          refine (next_any d1 50 _ D1.out (by omega)).mono ?_
          rintro e v4 ⟨k, k0, k1, rfl, hd, hr⟩
          have k2 : k < 50 := by omega
          have KMn := Lib.hid (KM.out.rolled hr gd)
          have LMn := Lib.hid (LM.out.trans (hr.below (by omega)))
          have DDn := Lib.hid (DD.out.keep (fun j hj => hr.block j (by omega)) (by rw [hr.size]; exact Nat.le_refl _))
          have A2n := Lib.hid (A2.out.rolled hr eA2)
          clear D1 hd hr gd dd k1 eA2
          clear KM
          have KM := KMn
          clear KMn
          clear LM
          have LM := LMn
          clear LMn
          clear DD
          have DD := DDn
          clear DDn
          clear A2
          have A2 := A2n
          clear A2n
          refine HK.out _ _ ⟨KM.out.c4, ?_⟩
          clear HK
          try simp only [Act.put, List.setIfInBounds_toArray, List.set_cons_zero, List.set_cons_succ]
          refine wpAnyH_take (i := 6) (v := ?_) rfl (by kernel_rfl) (by kernel_rfl) (by kernel_rfl) (fun _ _ _ h => h) (Or.inl ⟨by rfl, ?_⟩) KM.out.c4 ?_
          rotate_left
          · intro v hv
            go_simp
            try (with_reducible rfl)
          try simp only [Act.put, List.setIfInBounds_toArray, List.set_cons_zero, List.set_cons_succ]
          refine wpAnyH_all (rs := [9]) (by kernel_rfl) (by simp) (fun i hi => ?_)
          obtain rfl := List.mem_singleton.1 hi
          clear hi
          refine wpOp_step rfl (fun K hK => ?_)
          have HK := Lib.hid hK
          clear hK
          go_simp
          refine (roll_any _ 1 1 [a2] _ (A2.out.row WM.out)).mono ?_
          rintro e v5 ⟨rfl, hd, hb, hs⟩
          have KMn := Lib.hid (KM.out.below hb KM.out.lt)
          have LMn := Lib.hid (LM.out.trans (hb.mono LM.out.size))
          have DDn := Lib.hid (DD.out.below hb)
          have D2 := Lib.hid hd
          have gd : g ≠ v4.heap.size := by have := KM.out.lt; omega
          have dd : w.heap.size < v4.heap.size := DD.out.lt
          clear A2 hd hb hs
          clear KM
          have KM := KMn
          clear KMn
          clear LM
          have LM := LMn
          clear LMn
          clear DD
          have DD := DDn
          clear DDn
          generalize v4.heap.size = d2 at *
          refine HK.out _ _ ⟨KM.out.c4, ?_⟩
          clear HK
          try simp only [Act.put, List.setIfInBounds_toArray, List.set_cons_zero, List.set_cons_succ]
          refine wpAnyH_all (rs := [10]) (by kernel_rfl) (by simp) (fun i hi => ?_)
          obtain rfl := List.mem_singleton.1 hi
          clear hi
          refine wpOp_step rfl (fun K hK => ?_)
          have HK := Lib.hid hK
          clear hK
          go_simp
          refine (next_any d2 50 _ D2.out (by omega)).mono ?_
          rintro e v6 ⟨m, m0, m1, rfl, hd, hr⟩
          have m2 : m < 50 := by omega
          have KMn := Lib.hid (KM.out.rolled hr gd)
          have LMn := Lib.hid (LM.out.trans (hr.below (by omega)))
          have DDn := Lib.hid (DD.out.keep (fun j hj => hr.block j (by omega)) (by rw [hr.size]; exact Nat.le_refl _))
          clear D2 hd hr gd dd m1
          clear KM
          have KM := KMn
          clear KMn
          clear LM
          have LM := LMn
          clear LMn
          clear DD
          have DD := DDn
          clear DDn
          refine HK.out _ _ ⟨KM.out.c4, ?_⟩
          clear HK
          try simp only [Act.put, List.setIfInBounds_toArray, List.set_cons_zero, List.set_cons_succ]
          refine wpAnyH_all (rs := [11]) (by kernel_rfl) (by simp) (fun i hi => ?_)
          obtain rfl := List.mem_singleton.1 hi
          clear hi
          refine wpOp_step rfl (fun K hK => ?_)
          have HK := Lib.hid hK
          clear hK
          go_simp
          refine HK.out _ _ ⟨KM.out.c4, ?_⟩
          clear HK
          try simp only [Act.put, List.setIfInBounds_toArray, List.set_cons_zero, List.set_cons_succ]
          refine wpAnyH_all (rs := [12]) (by kernel_rfl) (by simp) (fun i hi => ?_)
          obtain rfl := List.mem_singleton.1 hi
          clear hi
          refine wpOp_step rfl (fun K hK => ?_)
          have HK := Lib.hid hK
          clear hK
          go_simp
          refine HK.out _ _ ⟨KM.out.c4, ?_⟩
          clear HK
          try simp only [Act.put, List.setIfInBounds_toArray, List.set_cons_zero, List.set_cons_succ]
          refine wpAnyH_done (by kernel_rfl) ?_ _
          go_wp2_with fail
          go_meet
          exact ⟨k, m, k0, k2, m0, m2, by rw [show IntKind.i64.wrap (x.t + k) = x.t + k from IntWalk.i64_in _ (by omega)], rfl, KM, LM, DD⟩
      · refine wpOp_step rfl (fun K hK => ?_)
        have HK := Lib.hid hK
        clear hK
        go_simp
        have KMn := Lib.hid (KM.out.alloc (Obj.cells #[Value.int IntKind.i64 a2] 3))
        have LMn := Lib.hid (LM.out.alloc LM.out.size (Obj.cells #[Value.int IntKind.i64 a2] 3))
        have DDn := Lib.hid (DD.out.alloc (Obj.cells #[Value.int IntKind.i64 a2] 3))
        have A2 := Lib.hid (At.new v1 a2 3)
        have A1n := Lib.hid (A1.out.alloc (Obj.cells #[Value.int IntKind.i64 a2] 3))
        clear KM
        have KM := KMn
        clear KMn
        clear LM
        have LM := LMn
        clear LMn
        clear DD
        have DD := DDn
        clear DDn
        clear A1
        have A1 := A1n
        clear A1n
        generalize v1.alloc (Obj.cells #[Value.int IntKind.i64 a2] 3) = v2 at *
        generalize v1.heap.size = h2 at *
        refine HK.out _ _ ⟨KM.out.c4, ?_⟩
        clear HK
        try simp only [Act.put, List.setIfInBounds_toArray, List.set_cons_zero, List.set_cons_succ]
        refine wpAnyH_all (rs := [4]) (by kernel_rfl) (by simp) (fun i hi => ?_)
        obtain rfl := List.mem_singleton.1 hi
        clear hi
        refine wpOp_step rfl (fun K hK => ?_)
        have HK := Lib.hid hK
        clear hK
        go_simp
        refine (roll_any _ 1 1 [a1] _ (A1.out.row WN.out)).mono ?_
        rintro e v3 ⟨rfl, hd, hb, hs⟩
        have KMn := Lib.hid (KM.out.below hb KM.out.lt)
        have LMn := Lib.hid (LM.out.trans (hb.mono LM.out.size))
        have DDn := Lib.hid (DD.out.below hb)
        have D1 := Lib.hid hd
        have A2n := Lib.hid (A2.out.below hb A2.out.2)
        have gd : g ≠ v2.heap.size := by have := KM.out.lt; omega
        have dd : w.heap.size < v2.heap.size := DD.out.lt
        have eA2 : h2 ≠ v2.heap.size := by have := A2.out.2; omega
        clear A1 hd hb hs
        clear KM
        have KM := KMn
        clear KMn
        clear LM
        have LM := LMn
        clear LMn
        clear DD
        have DD := DDn
        clear DDn
        clear A2
        have A2 := A2n
        clear A2n
        generalize v2.heap.size = d1 at *
        refine HK.out _ _ ⟨KM.out.c4, ?_⟩
        clear HK
        try simp only [Act.put, List.setIfInBounds_toArray, List.set_cons_zero, List.set_cons_succ]
        refine wpAnyH_all (rs := [5]) (by kernel_rfl) (by simp) (fun i hi => ?_)
        obtain rfl := List.mem_singleton.1 hi
        clear hi
        refine wpOp_step rfl (fun K hK => ?_)
        have HK := Lib.hid hK
        clear hK
        go_simp
        refine (next_any d1 50 _ D1.out (by omega)).mono ?_
        rintro e v4 ⟨k, k0, k1, rfl, hd, hr⟩
        have k2 : k < 50 := by omega
        have KMn := Lib.hid (KM.out.rolled hr gd)
        have LMn := Lib.hid (LM.out.trans (hr.below (by omega)))
        have DDn := Lib.hid (DD.out.keep (fun j hj => hr.block j (by omega)) (by rw [hr.size]; exact Nat.le_refl _))
        have A2n := Lib.hid (A2.out.rolled hr eA2)
        clear D1 hd hr gd dd k1 eA2
        clear KM
        have KM := KMn
        clear KMn
        clear LM
        have LM := LMn
        clear LMn
        clear DD
        have DD := DDn
        clear DDn
        clear A2
        have A2 := A2n
        clear A2n
        refine HK.out _ _ ⟨KM.out.c4, ?_⟩
        clear HK
        try simp only [Act.put, List.setIfInBounds_toArray, List.set_cons_zero, List.set_cons_succ]
        refine wpAnyH_take (i := 6) (v := ?_) rfl (by kernel_rfl) (by kernel_rfl) (by kernel_rfl) (fun _ _ _ h => h) (Or.inl ⟨by rfl, ?_⟩) KM.out.c4 ?_
        rotate_left
        · intro v hv
          go_simp
          try (with_reducible rfl)
        try simp only [Act.put, List.setIfInBounds_toArray, List.set_cons_zero, List.set_cons_succ]
        refine wpAnyH_all (rs := [9]) (by kernel_rfl) (by simp) (fun i hi => ?_)
        obtain rfl := List.mem_singleton.1 hi
        clear hi
        refine wpOp_step rfl (fun K hK => ?_)
        have HK := Lib.hid hK
        clear hK
        go_simp
        refine (roll_any _ 1 1 [a2] _ (A2.out.row WM.out)).mono ?_
        rintro e v5 ⟨rfl, hd, hb, hs⟩
        have KMn := Lib.hid (KM.out.below hb KM.out.lt)
        have LMn := Lib.hid (LM.out.trans (hb.mono LM.out.size))
        have DDn := Lib.hid (DD.out.below hb)
        have D2 := Lib.hid hd
        have gd : g ≠ v4.heap.size := by have := KM.out.lt; omega
        have dd : w.heap.size < v4.heap.size := DD.out.lt
        clear A2 hd hb hs
        clear KM
        have KM := KMn
        clear KMn
        clear LM
        have LM := LMn
        clear LMn
        clear DD
        have DD := DDn
        clear DDn
        generalize v4.heap.size = d2 at *
        refine HK.out _ _ ⟨KM.out.c4, ?_⟩
        clear HK
        try simp only [Act.put, List.setIfInBounds_toArray, List.set_cons_zero, List.set_cons_succ]
        refine wpAnyH_all (rs := [10]) (by kernel_rfl) (by simp) (fun i hi => ?_)
        obtain rfl := List.mem_singleton.1 hi
        clear hi
        refine wpOp_step rfl (fun K hK => ?_)
        have HK := Lib.hid hK
        clear hK
        go_simp
        refine (next_any d2 50 _ D2.out (by omega)).mono ?_
        rintro e v6 ⟨m, m0, m1, rfl, hd, hr⟩
        have m2 : m < 50 := by omega
        have KMn := Lib.hid (KM.out.rolled hr gd)
        have LMn := Lib.hid (LM.out.trans (hr.below (by omega)))
        have DDn := Lib.hid (DD.out.keep (fun j hj => hr.block j (by omega)) (by rw [hr.size]; exact Nat.le_refl _))
        clear D2 hd hr gd dd m1
        clear KM
        have KM := KMn
        clear KMn
        clear LM
        have LM := LMn
        clear LMn
        clear DD
        have DD := DDn
        clear DDn
        refine HK.out _ _ ⟨KM.out.c4, ?_⟩
        clear HK
        try simp only [Act.put, List.setIfInBounds_toArray, List.set_cons_zero, List.set_cons_succ]
        refine wpAnyH_all (rs := [11]) (by kernel_rfl) (by simp) (fun i hi => ?_)
        obtain rfl := List.mem_singleton.1 hi
        clear hi
        refine wpOp_step rfl (fun K hK => ?_)
        have HK := Lib.hid hK
        clear hK
        go_simp
        refine HK.out _ _ ⟨KM.out.c4, ?_⟩
        clear HK
        try simp only [Act.put, List.setIfInBounds_toArray, List.set_cons_zero, List.set_cons_succ]
        refine wpAnyH_all (rs := [12]) (by kernel_rfl) (by simp) (fun i hi => ?_)
        obtain rfl := List.mem_singleton.1 hi
        clear hi
        refine wpOp_step rfl (fun K hK => ?_)
        have HK := Lib.hid hK
        clear hK
        go_simp
        refine HK.out _ _ ⟨KM.out.c4, ?_⟩
        clear HK
        try simp only [Act.put, List.setIfInBounds_toArray, List.set_cons_zero, List.set_cons_succ]
        refine wpAnyH_done (by kernel_rfl) ?_ _
        go_wp2_with fail
        go_meet
        exact ⟨k, m, k0, k2, m0, m2, by rw [show IntKind.i64.wrap (x.t + k) = x.t + k from IntWalk.i64_in _ (by omega)], rfl, KM, LM, DD⟩
    · refine wpOp_step rfl (fun K hK => ?_)
      have HK := Lib.hid hK
      clear hK
      go_simp
      have KMn := Lib.hid (KM.out.alloc (Obj.cells #[Value.int IntKind.i64 a2] 3))
      have LMn := Lib.hid (LM.out.alloc LM.out.size (Obj.cells #[Value.int IntKind.i64 a2] 3))
      have DDn := Lib.hid (DD.out.alloc (Obj.cells #[Value.int IntKind.i64 a2] 3))
      have A2 := Lib.hid (At.new v0 a2 3)
      clear KM
      have KM := KMn
      clear KMn
      clear LM
      have LM := LMn
      clear LMn
      clear DD
      have DD := DDn
      clear DDn
      generalize v0.alloc (Obj.cells #[Value.int IntKind.i64 a2] 3) = v1 at *
      generalize v0.heap.size = h2 at *
      refine HK.out _ _ ⟨KM.out.c4, ?_⟩
      clear HK
      try simp only [Act.put, List.setIfInBounds_toArray, List.set_cons_zero, List.set_cons_succ]
      refine wpAnyH_all (rs := [3]) (by kernel_rfl) (by simp) (fun i hi => ?_)
      obtain rfl := List.mem_singleton.1 hi
      clear hi
      refine wpOp_step rfl (fun K hK => ?_)
      have HK := Lib.hid hK
      clear hK
      go_simp
      have KMn := Lib.hid (KM.out.alloc (Obj.cells #[Value.int IntKind.i64 a1] 3))
      have LMn := Lib.hid (LM.out.alloc LM.out.size (Obj.cells #[Value.int IntKind.i64 a1] 3))
      have DDn := Lib.hid (DD.out.alloc (Obj.cells #[Value.int IntKind.i64 a1] 3))
      have A1 := Lib.hid (At.new v1 a1 3)
      have A2n := Lib.hid (A2.out.alloc (Obj.cells #[Value.int IntKind.i64 a1] 3))
      clear KM
      have KM := KMn
      clear KMn
      clear LM
      have LM := LMn
      clear LMn
      clear DD
      have DD := DDn
      clear DDn
      clear A2
      have A2 := A2n
      clear A2n
      generalize v1.alloc (Obj.cells #[Value.int IntKind.i64 a1] 3) = v2 at *
      generalize v1.heap.size = h1 at *
      refine HK.out _ _ ⟨KM.out.c4, ?_⟩
      clear HK
      try simp only [Act.put, List.setIfInBounds_toArray, List.set_cons_zero, List.set_cons_succ]
      refine wpAnyH_all (rs := [4]) (by kernel_rfl) (by simp) (fun i hi => ?_)
      obtain rfl := List.mem_singleton.1 hi
      clear hi
      refine wpOp_step rfl (fun K hK => ?_)
      have HK := Lib.hid hK
      clear hK
      go_simp
      refine (roll_any _ 1 1 [a1] _ (A1.out.row WN.out)).mono ?_
      rintro e v3 ⟨rfl, hd, hb, hs⟩
      have KMn := Lib.hid (KM.out.below hb KM.out.lt)
      have LMn := Lib.hid (LM.out.trans (hb.mono LM.out.size))
      have DDn := Lib.hid (DD.out.below hb)
      have D1 := Lib.hid hd
      have A2n := Lib.hid (A2.out.below hb A2.out.2)
      have gd : g ≠ v2.heap.size := by have := KM.out.lt; omega
      have dd : w.heap.size < v2.heap.size := DD.out.lt
      have eA2 : h2 ≠ v2.heap.size := by have := A2.out.2; omega
      clear A1 hd hb hs
      clear KM
      have KM := KMn
      clear KMn
      clear LM
      have LM := LMn
      clear LMn
      clear DD
      have DD := DDn
      clear DDn
      clear A2
      have A2 := A2n
      clear A2n
      generalize v2.heap.size = d1 at *
      refine HK.out _ _ ⟨KM.out.c4, ?_⟩
      clear HK
      try simp only [Act.put, List.setIfInBounds_toArray, List.set_cons_zero, List.set_cons_succ]
      refine wpAnyH_all (rs := [5]) (by kernel_rfl) (by simp) (fun i hi => ?_)
      obtain rfl := List.mem_singleton.1 hi
      clear hi
      refine wpOp_step rfl (fun K hK => ?_)
      have HK := Lib.hid hK
      clear hK
      go_simp
      refine (next_any d1 50 _ D1.out (by omega)).mono ?_
      rintro e v4 ⟨k, k0, k1, rfl, hd, hr⟩
      have k2 : k < 50 := by omega
      have KMn := Lib.hid (KM.out.rolled hr gd)
      have LMn := Lib.hid (LM.out.trans (hr.below (by omega)))
      have DDn := Lib.hid (DD.out.keep (fun j hj => hr.block j (by omega)) (by rw [hr.size]; exact Nat.le_refl _))
      have A2n := Lib.hid (A2.out.rolled hr eA2)
      clear D1 hd hr gd dd k1 eA2
      clear KM
      have KM := KMn
      clear KMn
      clear LM
      have LM := LMn
      clear LMn
      clear DD
      have DD := DDn
      clear DDn
      clear A2
      have A2 := A2n
      clear A2n
      refine HK.out _ _ ⟨KM.out.c4, ?_⟩
      clear HK
      try simp only [Act.put, List.setIfInBounds_toArray, List.set_cons_zero, List.set_cons_succ]
      refine wpAnyH_take (i := 6) (v := ?_) rfl (by kernel_rfl) (by kernel_rfl) (by kernel_rfl) (fun _ _ _ h => h) (Or.inl ⟨by rfl, ?_⟩) KM.out.c4 ?_
      rotate_left
      · intro v hv
        go_simp
        try (with_reducible rfl)
      try simp only [Act.put, List.setIfInBounds_toArray, List.set_cons_zero, List.set_cons_succ]
      refine wpAnyH_all (rs := [9]) (by kernel_rfl) (by simp) (fun i hi => ?_)
      obtain rfl := List.mem_singleton.1 hi
      clear hi
      refine wpOp_step rfl (fun K hK => ?_)
      have HK := Lib.hid hK
      clear hK
      go_simp
      refine (roll_any _ 1 1 [a2] _ (A2.out.row WM.out)).mono ?_
      rintro e v5 ⟨rfl, hd, hb, hs⟩
      have KMn := Lib.hid (KM.out.below hb KM.out.lt)
      have LMn := Lib.hid (LM.out.trans (hb.mono LM.out.size))
      have DDn := Lib.hid (DD.out.below hb)
      have D2 := Lib.hid hd
      have gd : g ≠ v4.heap.size := by have := KM.out.lt; omega
      have dd : w.heap.size < v4.heap.size := DD.out.lt
      clear A2 hd hb hs
      clear KM
      have KM := KMn
      clear KMn
      clear LM
      have LM := LMn
      clear LMn
      clear DD
      have DD := DDn
      clear DDn
      generalize v4.heap.size = d2 at *
      refine HK.out _ _ ⟨KM.out.c4, ?_⟩
      clear HK
      try simp only [Act.put, List.setIfInBounds_toArray, List.set_cons_zero, List.set_cons_succ]
      refine wpAnyH_all (rs := [10]) (by kernel_rfl) (by simp) (fun i hi => ?_)
      obtain rfl := List.mem_singleton.1 hi
      clear hi
      refine wpOp_step rfl (fun K hK => ?_)
      have HK := Lib.hid hK
      clear hK
      go_simp
      refine (next_any d2 50 _ D2.out (by omega)).mono ?_
      rintro e v6 ⟨m, m0, m1, rfl, hd, hr⟩
      have m2 : m < 50 := by omega
      have KMn := Lib.hid (KM.out.rolled hr gd)
      have LMn := Lib.hid (LM.out.trans (hr.below (by omega)))
      have DDn := Lib.hid (DD.out.keep (fun j hj => hr.block j (by omega)) (by rw [hr.size]; exact Nat.le_refl _))
      clear D2 hd hr gd dd m1
      clear KM
      have KM := KMn
      clear KMn
      clear LM
      have LM := LMn
      clear LMn
      clear DD
      have DD := DDn
      clear DDn
      refine HK.out _ _ ⟨KM.out.c4, ?_⟩
      clear HK
      try simp only [Act.put, List.setIfInBounds_toArray, List.set_cons_zero, List.set_cons_succ]
      refine wpAnyH_all (rs := [11]) (by kernel_rfl) (by simp) (fun i hi => ?_)
      obtain rfl := List.mem_singleton.1 hi
      clear hi
      refine wpOp_step rfl (fun K hK => ?_)
      have HK := Lib.hid hK
      clear hK
      go_simp
      refine HK.out _ _ ⟨KM.out.c4, ?_⟩
      clear HK
      try simp only [Act.put, List.setIfInBounds_toArray, List.set_cons_zero, List.set_cons_succ]
      refine wpAnyH_all (rs := [12]) (by kernel_rfl) (by simp) (fun i hi => ?_)
      obtain rfl := List.mem_singleton.1 hi
      clear hi
      refine wpOp_step rfl (fun K hK => ?_)
      have HK := Lib.hid hK
      clear hK
      go_simp
      refine HK.out _ _ ⟨KM.out.c4, ?_⟩
      clear HK
      try simp only [Act.put, List.setIfInBounds_toArray, List.set_cons_zero, List.set_cons_succ]
      refine wpAnyH_done (by kernel_rfl) ?_ _
      go_wp2_with fail
      go_meet
      exact ⟨k, m, k0, k2, m0, m2, by rw [show IntKind.i64.wrap (x.t + k) = x.t + k from IntWalk.i64_in _ (by omega)], rfl, KM, LM, DD⟩
  case rest =>
    clear KM LM DD
    obtain ⟨k, m, k0, k2, m0, m2, rfl, rfl, K, HB, HD⟩ := hcut
    have hgw : w.heap.size < w2.heap.size := hdg
    generalize w2.heap.size = g at *
    obtain ⟨y, z, ea, eb, ec, hy⟩ := adv_two x (x.t + k) m HO.out (by omega) m0 (by omega)
    have CA := Lib.hid (fun w => adv_any x (x.t + k) w)
    have CB := Lib.hid (fun w => adv_any y (x.t + k + m) w)
    have CC := Lib.hid (fun w => adv_any x (x.t + k + m) w)
    rw [ea] at CA
    rw [eb] at CB
    rw [ec] at CC
    simp only [Bk.v] at CA CB CC
    clear ea eb ec hy
    obtain ⟨k_0, k_1, k_2, k_3, k_4, k_f0, k_f1, k_f2, k_f3, k_f4, k_l⟩ := K.out
    go_wp2_with fail
    refine (CA.out _).mono ?_
    rintro e w7 ⟨rfl, hb7⟩
    clear k_0 k_1 k_2 k_3 k_4 k_f0 k_f1 k_f2 k_f3 k_f4 k_l
    have Kn : Hid (BkAt w7 g x) := Lib.hid (BkAt.call (by repeat (first | exact K.out | refine BkAt.alloc ?_ _ | refine BkAt.drew ?_ | exact BkAt.new _ _ _)) hb7)
    have HBn : Hid (Below w.heap.size w w7) := Lib.hid (below_call (by repeat (first | exact HB.out | refine below_al ?_ _ | refine Below.drew ?_)) hb7)
    have HDn : Hid (DiceAt w7 w.heap.size) := Lib.hid (DiceAt.below (by repeat (first | exact HD.out | refine DiceAt.alloc ?_ _ | refine DiceAt.drew ?_)) hb7)
    clear K
    have K := Kn
    clear Kn
    clear HB
    have HB := HBn
    clear HBn
    clear HD
    have HD := HDn
    clear HDn
    clear hb7
    obtain ⟨k_0, k_1, k_2, k_3, k_4, k_f0, k_f1, k_f2, k_f3, k_f4, k_l⟩ := K.out
    go_wp2_with fail
    refine (CB.out _).mono ?_
    rintro e w8 ⟨rfl, hb8⟩
    clear k_0 k_1 k_2 k_3 k_4 k_f0 k_f1 k_f2 k_f3 k_f4 k_l
    have Kn : Hid (BkAt w8 g x) := Lib.hid (BkAt.call (by repeat (first | exact K.out | refine BkAt.alloc ?_ _ | refine BkAt.drew ?_ | exact BkAt.new _ _ _)) hb8)
    have Yn : Hid (BkAt w8 w7.heap.size y) := Lib.hid (BkAt.call (by repeat (first | exact BkAt.new _ _ _ | refine BkAt.alloc ?_ _ | refine BkAt.drew ?_)) hb8)
    have HBn : Hid (Below w.heap.size w w8) := Lib.hid (below_call (by repeat (first | exact HB.out | refine below_al ?_ _ | refine Below.drew ?_)) hb8)
    have HDn : Hid (DiceAt w8 w.heap.size) := Lib.hid (DiceAt.below (by repeat (first | exact HD.out | refine DiceAt.alloc ?_ _ | refine DiceAt.drew ?_)) hb8)
    clear K
    have K := Kn
    clear Kn
    have Y := Yn
    clear Yn
    clear HB
    have HB := HBn
    clear HBn
    clear HD
    have HD := HDn
    clear HDn
    clear hb8
    obtain ⟨k_0, k_1, k_2, k_3, k_4, k_f0, k_f1, k_f2, k_f3, k_f4, k_l⟩ := K.out
    obtain ⟨y_0, y_1, y_2, y_3, y_4, y_f0, y_f1, y_f2, y_f3, y_f4, y_l⟩ := Y.out
    go_wp2_with fail
    refine (CC.out _).mono ?_
    rintro e w9 ⟨rfl, hb9⟩
    clear k_0 k_1 k_2 k_3 k_4 k_f0 k_f1 k_f2 k_f3 k_f4 k_l
    clear y_0 y_1 y_2 y_3 y_4 y_f0 y_f1 y_f2 y_f3 y_f4 y_l
    have Kn : Hid (BkAt w9 g x) := Lib.hid (BkAt.call (by repeat (first | exact K.out | refine BkAt.alloc ?_ _ | refine BkAt.drew ?_ | exact BkAt.new _ _ _)) hb9)
    have Yn : Hid (BkAt w9 w7.heap.size y) := Lib.hid (BkAt.call (by repeat (first | exact Y.out | refine BkAt.alloc ?_ _ | refine BkAt.drew ?_ | exact BkAt.new _ _ _)) hb9)
    have Pn : Hid (BkAt w9 w8.heap.size z) := Lib.hid (BkAt.call (by repeat (first | exact BkAt.new _ _ _ | refine BkAt.alloc ?_ _ | refine BkAt.drew ?_)) hb9)
    have HBn : Hid (Below w.heap.size w w9) := Lib.hid (below_call (by repeat (first | exact HB.out | refine below_al ?_ _ | refine Below.drew ?_)) hb9)
    have HDn : Hid (DiceAt w9 w.heap.size) := Lib.hid (DiceAt.below (by repeat (first | exact HD.out | refine DiceAt.alloc ?_ _ | refine DiceAt.drew ?_)) hb9)
    clear K
    have K := Kn
    clear Kn
    clear Y
    have Y := Yn
    clear Yn
    have P := Pn
    clear Pn
    clear HB
    have HB := HBn
    clear HBn
    clear HD
    have HD := HDn
    clear HDn
    clear hb9
    obtain ⟨k_0, k_1, k_2, k_3, k_4, k_f0, k_f1, k_f2, k_f3, k_f4, k_l⟩ := K.out
    obtain ⟨y_0, y_1, y_2, y_3, y_4, y_f0, y_f1, y_f2, y_f3, y_f4, y_l⟩ := Y.out
    obtain ⟨p_0, p_1, p_2, p_3, p_4, p_f0, p_f1, p_f2, p_f3, p_f4, p_l⟩ := P.out
    go_wp2_with fail
    refine (next_any w.heap.size 40 _ (by repeat (first | exact HD.out | refine DiceAt.alloc ?_ _ | refine DiceAt.drew ?_)) (by omega)).mono ?_
    rintro e w10 ⟨p, p0, p1, rfl, hd10, hr10⟩
    have p2 : p < 40 := by omega
    clear k_0 k_1 k_2 k_3 k_4 k_f0 k_f1 k_f2 k_f3 k_f4 k_l
    clear y_0 y_1 y_2 y_3 y_4 y_f0 y_f1 y_f2 y_f3 y_f4 y_l
    clear p_0 p_1 p_2 p_3 p_4 p_f0 p_f1 p_f2 p_f3 p_f4 p_l
    clear Y
    clear P
    have Kn : Hid (BkAt w10 g x) := Lib.hid (BkAt.rolled (by repeat (first | exact K.out | refine BkAt.alloc ?_ _ | refine BkAt.drew ?_ | exact BkAt.new _ _ _)) hr10 (by omega))
    have HBn : Hid (Below w.heap.size w w10) := Lib.hid (below_roll (by repeat (first | exact HB.out | refine below_al ?_ _ | refine Below.drew ?_)) hr10 (Nat.le_refl _))
    have HDn : Hid (DiceAt w10 w.heap.size) := Lib.hid hd10
    clear K
    have K := Kn
    clear Kn
    clear HB
    have HB := HBn
    clear HBn
    clear HD
    have HD := HDn
    clear HDn
    clear hd10 hr10 p1
    obtain ⟨k_0, k_1, k_2, k_3, k_4, k_f0, k_f1, k_f2, k_f3, k_f4, k_l⟩ := K.out
    go_wp2_with fail
    refine (next_any w.heap.size 40 _ (by repeat (first | exact HD.out | refine DiceAt.alloc ?_ _ | refine DiceAt.drew ?_)) (by omega)).mono ?_
    rintro e w11 ⟨q, q0, q1, rfl, hd11, hr11⟩
    have q2 : q < 40 := by omega
    clear k_0 k_1 k_2 k_3 k_4 k_f0 k_f1 k_f2 k_f3 k_f4 k_l
    have Kn : Hid (BkAt w11 g x) := Lib.hid (BkAt.rolled (by repeat (first | exact K.out | refine BkAt.alloc ?_ _ | refine BkAt.drew ?_ | exact BkAt.new _ _ _)) hr11 (by omega))
    have HBn : Hid (Below w.heap.size w w11) := Lib.hid (below_roll (by repeat (first | exact HB.out | refine below_al ?_ _ | refine Below.drew ?_)) hr11 (Nat.le_refl _))
    have HDn : Hid (DiceAt w11 w.heap.size) := Lib.hid hd11
    clear K
    have K := Kn
    clear Kn
    clear HB
    have HB := HBn
    clear HBn
    clear HD
    have HD := HDn
    clear HDn
    clear hd11 hr11 q1
    obtain ⟨k_0, k_1, k_2, k_3, k_4, k_f0, k_f1, k_f2, k_f3, k_f4, k_l⟩ := K.out
    obtain ⟨u, v, t, e1, e2, e3, ha, hb, hc, h1, h2, h3, h4, h5⟩ := take_two x (x.t + k) p q HO.out (by omega) (by omega) p0 (by omega) q0 (by omega)
    have TA := Lib.hid (fun w => take_any x (x.t + k) p w)
    have TB := Lib.hid (fun w => take_any u (x.t + k) q w)
    have TC := Lib.hid (fun w => take_any x (x.t + k) (p + q) w)
    rw [ha] at TA
    rw [hb] at TB
    rw [hc] at TC
    simp only [Bk.v] at TA TB TC
    clear ha hb hc
    rcases h3 with rfl | rfl
    · obtain ⟨rfl, rfl⟩ := h4.1 rfl
      obtain rfl := h5 rfl
      clear h1 h2 h4 h5
      go_wp2_with fail
      refine (TA.out _).mono ?_
      rintro e w12 ⟨rfl, hb12⟩
      clear k_0 k_1 k_2 k_3 k_4 k_f0 k_f1 k_f2 k_f3 k_f4 k_l
      have Kn : Hid (BkAt w12 g x) := Lib.hid (BkAt.call (by repeat (first | exact K.out | refine BkAt.alloc ?_ _ | refine BkAt.drew ?_ | exact BkAt.new _ _ _)) hb12)
      have HBn : Hid (Below w.heap.size w w12) := Lib.hid (below_call (by repeat (first | exact HB.out | refine below_al ?_ _ | refine Below.drew ?_)) hb12)
      have HDn : Hid (DiceAt w12 w.heap.size) := Lib.hid (DiceAt.below (by repeat (first | exact HD.out | refine DiceAt.alloc ?_ _ | refine DiceAt.drew ?_)) hb12)
      clear K
      have K := Kn
      clear Kn
      clear HB
      have HB := HBn
      clear HBn
      clear HD
      have HD := HDn
      clear HDn
      clear hb12
      obtain ⟨k_0, k_1, k_2, k_3, k_4, k_f0, k_f1, k_f2, k_f3, k_f4, k_l⟩ := K.out
      go_wp2_with fail
      refine (TB.out _).mono ?_
      rintro e w13 ⟨rfl, hb13⟩
      clear k_0 k_1 k_2 k_3 k_4 k_f0 k_f1 k_f2 k_f3 k_f4 k_l
      have Kn : Hid (BkAt w13 g x) := Lib.hid (BkAt.call (by repeat (first | exact K.out | refine BkAt.alloc ?_ _ | refine BkAt.drew ?_ | exact BkAt.new _ _ _)) hb13)
      have Un : Hid (BkAt w13 w12.heap.size u) := Lib.hid (BkAt.call (by repeat (first | exact BkAt.new _ _ _ | refine BkAt.alloc ?_ _ | refine BkAt.drew ?_)) hb13)
      have HBn : Hid (Below w.heap.size w w13) := Lib.hid (below_call (by repeat (first | exact HB.out | refine below_al ?_ _ | refine Below.drew ?_)) hb13)
      have HDn : Hid (DiceAt w13 w.heap.size) := Lib.hid (DiceAt.below (by repeat (first | exact HD.out | refine DiceAt.alloc ?_ _ | refine DiceAt.drew ?_)) hb13)
      clear K
      have K := Kn
      clear Kn
      have U := Un
      clear Un
      clear HB
      have HB := HBn
      clear HBn
      clear HD
      have HD := HDn
      clear HDn
      clear hb13
      obtain ⟨k_0, k_1, k_2, k_3, k_4, k_f0, k_f1, k_f2, k_f3, k_f4, k_l⟩ := K.out
      obtain ⟨u_0, u_1, u_2, u_3, u_4, u_f0, u_f1, u_f2, u_f3, u_f4, u_l⟩ := U.out
      go_wp2_with fail
      refine (TC.out _).mono ?_
      rintro e w14 ⟨rfl, hb14⟩
      clear k_0 k_1 k_2 k_3 k_4 k_f0 k_f1 k_f2 k_f3 k_f4 k_l
      clear u_0 u_1 u_2 u_3 u_4 u_f0 u_f1 u_f2 u_f3 u_f4 u_l
      have Kn : Hid (BkAt w14 g x) := Lib.hid (BkAt.call (by repeat (first | exact K.out | refine BkAt.alloc ?_ _ | refine BkAt.drew ?_ | exact BkAt.new _ _ _)) hb14)
      have Un : Hid (BkAt w14 w12.heap.size u) := Lib.hid (BkAt.call (by repeat (first | exact U.out | refine BkAt.alloc ?_ _ | refine BkAt.drew ?_ | exact BkAt.new _ _ _)) hb14)
      have Vn : Hid (BkAt w14 w13.heap.size v) := Lib.hid (BkAt.call (by repeat (first | exact BkAt.new _ _ _ | refine BkAt.alloc ?_ _ | refine BkAt.drew ?_)) hb14)
      have HBn : Hid (Below w.heap.size w w14) := Lib.hid (below_call (by repeat (first | exact HB.out | refine below_al ?_ _ | refine Below.drew ?_)) hb14)
      have HDn : Hid (DiceAt w14 w.heap.size) := Lib.hid (DiceAt.below (by repeat (first | exact HD.out | refine DiceAt.alloc ?_ _ | refine DiceAt.drew ?_)) hb14)
      clear K
      have K := Kn
      clear Kn
      clear U
      have U := Un
      clear Un
      have V := Vn
      clear Vn
      clear HB
      have HB := HBn
      clear HBn
      clear HD
      have HD := HDn
      clear HDn
      clear hb14
      obtain ⟨k_0, k_1, k_2, k_3, k_4, k_f0, k_f1, k_f2, k_f3, k_f4, k_l⟩ := K.out
      obtain ⟨u_0, u_1, u_2, u_3, u_4, u_f0, u_f1, u_f2, u_f3, u_f4, u_l⟩ := U.out
      obtain ⟨v_0, v_1, v_2, v_3, v_4, v_f0, v_f1, v_f2, v_f3, v_f4, v_l⟩ := V.out
      go_wp2_with fail
      refine (bsane _).mono ?_
      rintro e w15 ⟨rfl, hb15⟩
      clear k_0 k_1 k_2 k_3 k_4 k_f0 k_f1 k_f2 k_f3 k_f4 k_l
      clear u_0 u_1 u_2 u_3 u_4 u_f0 u_f1 u_f2 u_f3 u_f4 u_l
      clear v_0 v_1 v_2 v_3 v_4 v_f0 v_f1 v_f2 v_f3 v_f4 v_l
      have Kn : Hid (BkAt w15 g x) := Lib.hid (BkAt.call (by repeat (first | exact K.out | refine BkAt.alloc ?_ _ | refine BkAt.drew ?_ | exact BkAt.new _ _ _)) hb15)
      have Un : Hid (BkAt w15 w12.heap.size u) := Lib.hid (BkAt.call (by repeat (first | exact U.out | refine BkAt.alloc ?_ _ | refine BkAt.drew ?_ | exact BkAt.new _ _ _)) hb15)
      have Vn : Hid (BkAt w15 w13.heap.size v) := Lib.hid (BkAt.call (by repeat (first | exact V.out | refine BkAt.alloc ?_ _ | refine BkAt.drew ?_ | exact BkAt.new _ _ _)) hb15)
      have HBn : Hid (Below w.heap.size w w15) := Lib.hid (below_call (by repeat (first | exact HB.out | refine below_al ?_ _ | refine Below.drew ?_)) hb15)
      have HDn : Hid (DiceAt w15 w.heap.size) := Lib.hid (DiceAt.below (by repeat (first | exact HD.out | refine DiceAt.alloc ?_ _ | refine DiceAt.drew ?_)) hb15)
      clear K
      have K := Kn
      clear Kn
      clear U
      have U := Un
      clear Un
      clear V
      have V := Vn
      clear Vn
      clear HB
      have HB := HBn
      clear HBn
      clear HD
      have HD := HDn
      clear HDn
      clear hb15
      obtain ⟨k_0, k_1, k_2, k_3, k_4, k_f0, k_f1, k_f2, k_f3, k_f4, k_l⟩ := K.out
      obtain ⟨u_0, u_1, u_2, u_3, u_4, u_f0, u_f1, u_f2, u_f3, u_f4, u_l⟩ := U.out
      obtain ⟨v_0, v_1, v_2, v_3, v_4, v_f0, v_f1, v_f2, v_f3, v_f4, v_l⟩ := V.out
      go_wp2
      go_ret
      exact ⟨rfl, HB.out⟩
    · clear h5
      rcases h1 with rfl | rfl
      · rcases h2 with rfl | rfl
        · exact absurd (h4.2 ⟨rfl, rfl⟩) (by decide)
        · clear h4
          go_wp2_with fail
          refine (TA.out _).mono ?_
          rintro e w12 ⟨rfl, hb12⟩
          clear k_0 k_1 k_2 k_3 k_4 k_f0 k_f1 k_f2 k_f3 k_f4 k_l
          have Kn : Hid (BkAt w12 g x) := Lib.hid (BkAt.call (by repeat (first | exact K.out | refine BkAt.alloc ?_ _ | refine BkAt.drew ?_ | exact BkAt.new _ _ _)) hb12)
          have HBn : Hid (Below w.heap.size w w12) := Lib.hid (below_call (by repeat (first | exact HB.out | refine below_al ?_ _ | refine Below.drew ?_)) hb12)
          have HDn : Hid (DiceAt w12 w.heap.size) := Lib.hid (DiceAt.below (by repeat (first | exact HD.out | refine DiceAt.alloc ?_ _ | refine DiceAt.drew ?_)) hb12)
          clear K
          have K := Kn
          clear Kn
          clear HB
          have HB := HBn
          clear HBn
          clear HD
          have HD := HDn
          clear HDn
          clear hb12
          obtain ⟨k_0, k_1, k_2, k_3, k_4, k_f0, k_f1, k_f2, k_f3, k_f4, k_l⟩ := K.out
          go_wp2_with fail
          refine (TB.out _).mono ?_
          rintro e w13 ⟨rfl, hb13⟩
          clear k_0 k_1 k_2 k_3 k_4 k_f0 k_f1 k_f2 k_f3 k_f4 k_l
          have Kn : Hid (BkAt w13 g x) := Lib.hid (BkAt.call (by repeat (first | exact K.out | refine BkAt.alloc ?_ _ | refine BkAt.drew ?_ | exact BkAt.new _ _ _)) hb13)
          have Un : Hid (BkAt w13 w12.heap.size u) := Lib.hid (BkAt.call (by repeat (first | exact BkAt.new _ _ _ | refine BkAt.alloc ?_ _ | refine BkAt.drew ?_)) hb13)
          have HBn : Hid (Below w.heap.size w w13) := Lib.hid (below_call (by repeat (first | exact HB.out | refine below_al ?_ _ | refine Below.drew ?_)) hb13)
          have HDn : Hid (DiceAt w13 w.heap.size) := Lib.hid (DiceAt.below (by repeat (first | exact HD.out | refine DiceAt.alloc ?_ _ | refine DiceAt.drew ?_)) hb13)
          clear K
          have K := Kn
          clear Kn
          have U := Un
          clear Un
          clear HB
          have HB := HBn
          clear HBn
          clear HD
          have HD := HDn
          clear HDn
          clear hb13
          obtain ⟨k_0, k_1, k_2, k_3, k_4, k_f0, k_f1, k_f2, k_f3, k_f4, k_l⟩ := K.out
          obtain ⟨u_0, u_1, u_2, u_3, u_4, u_f0, u_f1, u_f2, u_f3, u_f4, u_l⟩ := U.out
          go_wp2_with fail
          refine (TC.out _).mono ?_
          rintro e w14 ⟨rfl, hb14⟩
          clear k_0 k_1 k_2 k_3 k_4 k_f0 k_f1 k_f2 k_f3 k_f4 k_l
          clear u_0 u_1 u_2 u_3 u_4 u_f0 u_f1 u_f2 u_f3 u_f4 u_l
          have Kn : Hid (BkAt w14 g x) := Lib.hid (BkAt.call (by repeat (first | exact K.out | refine BkAt.alloc ?_ _ | refine BkAt.drew ?_ | exact BkAt.new _ _ _)) hb14)
          have Un : Hid (BkAt w14 w12.heap.size u) := Lib.hid (BkAt.call (by repeat (first | exact U.out | refine BkAt.alloc ?_ _ | refine BkAt.drew ?_ | exact BkAt.new _ _ _)) hb14)
          have Vn : Hid (BkAt w14 w13.heap.size v) := Lib.hid (BkAt.call (by repeat (first | exact BkAt.new _ _ _ | refine BkAt.alloc ?_ _ | refine BkAt.drew ?_)) hb14)
          have HBn : Hid (Below w.heap.size w w14) := Lib.hid (below_call (by repeat (first | exact HB.out | refine below_al ?_ _ | refine Below.drew ?_)) hb14)
          have HDn : Hid (DiceAt w14 w.heap.size) := Lib.hid (DiceAt.below (by repeat (first | exact HD.out | refine DiceAt.alloc ?_ _ | refine DiceAt.drew ?_)) hb14)
          clear K
          have K := Kn
          clear Kn
          clear U
          have U := Un
          clear Un
          have V := Vn
          clear Vn
          clear HB
          have HB := HBn
          clear HBn
          clear HD
          have HD := HDn
          clear HDn
          clear hb14
          obtain ⟨k_0, k_1, k_2, k_3, k_4, k_f0, k_f1, k_f2, k_f3, k_f4, k_l⟩ := K.out
          obtain ⟨u_0, u_1, u_2, u_3, u_4, u_f0, u_f1, u_f2, u_f3, u_f4, u_l⟩ := U.out
          obtain ⟨v_0, v_1, v_2, v_3, v_4, v_f0, v_f1, v_f2, v_f3, v_f4, v_l⟩ := V.out
          go_wp2_with fail
          refine (bsane _).mono ?_
          rintro e w15 ⟨rfl, hb15⟩
          clear k_0 k_1 k_2 k_3 k_4 k_f0 k_f1 k_f2 k_f3 k_f4 k_l
          clear u_0 u_1 u_2 u_3 u_4 u_f0 u_f1 u_f2 u_f3 u_f4 u_l
          clear v_0 v_1 v_2 v_3 v_4 v_f0 v_f1 v_f2 v_f3 v_f4 v_l
          have Kn : Hid (BkAt w15 g x) := Lib.hid (BkAt.call (by repeat (first | exact K.out | refine BkAt.alloc ?_ _ | refine BkAt.drew ?_ | exact BkAt.new _ _ _)) hb15)
          have Un : Hid (BkAt w15 w12.heap.size u) := Lib.hid (BkAt.call (by repeat (first | exact U.out | refine BkAt.alloc ?_ _ | refine BkAt.drew ?_ | exact BkAt.new _ _ _)) hb15)
          have Vn : Hid (BkAt w15 w13.heap.size v) := Lib.hid (BkAt.call (by repeat (first | exact V.out | refine BkAt.alloc ?_ _ | refine BkAt.drew ?_ | exact BkAt.new _ _ _)) hb15)
          have HBn : Hid (Below w.heap.size w w15) := Lib.hid (below_call (by repeat (first | exact HB.out | refine below_al ?_ _ | refine Below.drew ?_)) hb15)
          have HDn : Hid (DiceAt w15 w.heap.size) := Lib.hid (DiceAt.below (by repeat (first | exact HD.out | refine DiceAt.alloc ?_ _ | refine DiceAt.drew ?_)) hb15)
          clear K
          have K := Kn
          clear Kn
          clear U
          have U := Un
          clear Un
          clear V
          have V := Vn
          clear Vn
          clear HB
          have HB := HBn
          clear HBn
          clear HD
          have HD := HDn
          clear HDn
          clear hb15
          obtain ⟨k_0, k_1, k_2, k_3, k_4, k_f0, k_f1, k_f2, k_f3, k_f4, k_l⟩ := K.out
          obtain ⟨u_0, u_1, u_2, u_3, u_4, u_f0, u_f1, u_f2, u_f3, u_f4, u_l⟩ := U.out
          obtain ⟨v_0, v_1, v_2, v_3, v_4, v_f0, v_f1, v_f2, v_f3, v_f4, v_l⟩ := V.out
          go_wp2
          go_ret
          exact ⟨rfl, HB.out⟩
      · clear h4
        rcases h2 with rfl | rfl
        · go_wp2_with fail
          refine (TA.out _).mono ?_
          rintro e w12 ⟨rfl, hb12⟩
          clear k_0 k_1 k_2 k_3 k_4 k_f0 k_f1 k_f2 k_f3 k_f4 k_l
          have Kn : Hid (BkAt w12 g x) := Lib.hid (BkAt.call (by repeat (first | exact K.out | refine BkAt.alloc ?_ _ | refine BkAt.drew ?_ | exact BkAt.new _ _ _)) hb12)
          have HBn : Hid (Below w.heap.size w w12) := Lib.hid (below_call (by repeat (first | exact HB.out | refine below_al ?_ _ | refine Below.drew ?_)) hb12)
          have HDn : Hid (DiceAt w12 w.heap.size) := Lib.hid (DiceAt.below (by repeat (first | exact HD.out | refine DiceAt.alloc ?_ _ | refine DiceAt.drew ?_)) hb12)
          clear K
          have K := Kn
          clear Kn
          clear HB
          have HB := HBn
          clear HBn
          clear HD
          have HD := HDn
          clear HDn
          clear hb12
          obtain ⟨k_0, k_1, k_2, k_3, k_4, k_f0, k_f1, k_f2, k_f3, k_f4, k_l⟩ := K.out
          go_wp2_with fail
          refine (TB.out _).mono ?_
          rintro e w13 ⟨rfl, hb13⟩
          clear k_0 k_1 k_2 k_3 k_4 k_f0 k_f1 k_f2 k_f3 k_f4 k_l
          have Kn : Hid (BkAt w13 g x) := Lib.hid (BkAt.call (by repeat (first | exact K.out | refine BkAt.alloc ?_ _ | refine BkAt.drew ?_ | exact BkAt.new _ _ _)) hb13)
          have Un : Hid (BkAt w13 w12.heap.size u) := Lib.hid (BkAt.call (by repeat (first | exact BkAt.new _ _ _ | refine BkAt.alloc ?_ _ | refine BkAt.drew ?_)) hb13)
          have HBn : Hid (Below w.heap.size w w13) := Lib.hid (below_call (by repeat (first | exact HB.out | refine below_al ?_ _ | refine Below.drew ?_)) hb13)
          have HDn : Hid (DiceAt w13 w.heap.size) := Lib.hid (DiceAt.below (by repeat (first | exact HD.out | refine DiceAt.alloc ?_ _ | refine DiceAt.drew ?_)) hb13)
          clear K
          have K := Kn
          clear Kn
          have U := Un
          clear Un
          clear HB
          have HB := HBn
          clear HBn
          clear HD
          have HD := HDn
          clear HDn
          clear hb13
          obtain ⟨k_0, k_1, k_2, k_3, k_4, k_f0, k_f1, k_f2, k_f3, k_f4, k_l⟩ := K.out
          obtain ⟨u_0, u_1, u_2, u_3, u_4, u_f0, u_f1, u_f2, u_f3, u_f4, u_l⟩ := U.out
          go_wp2_with fail
          refine (TC.out _).mono ?_
          rintro e w14 ⟨rfl, hb14⟩
          clear k_0 k_1 k_2 k_3 k_4 k_f0 k_f1 k_f2 k_f3 k_f4 k_l
          clear u_0 u_1 u_2 u_3 u_4 u_f0 u_f1 u_f2 u_f3 u_f4 u_l
          have Kn : Hid (BkAt w14 g x) := Lib.hid (BkAt.call (by repeat (first | exact K.out | refine BkAt.alloc ?_ _ | refine BkAt.drew ?_ | exact BkAt.new _ _ _)) hb14)
          have Un : Hid (BkAt w14 w12.heap.size u) := Lib.hid (BkAt.call (by repeat (first | exact U.out | refine BkAt.alloc ?_ _ | refine BkAt.drew ?_ | exact BkAt.new _ _ _)) hb14)
          have Vn : Hid (BkAt w14 w13.heap.size v) := Lib.hid (BkAt.call (by repeat (first | exact BkAt.new _ _ _ | refine BkAt.alloc ?_ _ | refine BkAt.drew ?_)) hb14)
          have HBn : Hid (Below w.heap.size w w14) := Lib.hid (below_call (by repeat (first | exact HB.out | refine below_al ?_ _ | refine Below.drew ?_)) hb14)
          have HDn : Hid (DiceAt w14 w.heap.size) := Lib.hid (DiceAt.below (by repeat (first | exact HD.out | refine DiceAt.alloc ?_ _ | refine DiceAt.drew ?_)) hb14)
          clear K
          have K := Kn
          clear Kn
          clear U
          have U := Un
          clear Un
          have V := Vn
          clear Vn
          clear HB
          have HB := HBn
          clear HBn
          clear HD
          have HD := HDn
          clear HDn
          clear hb14
          obtain ⟨k_0, k_1, k_2, k_3, k_4, k_f0, k_f1, k_f2, k_f3, k_f4, k_l⟩ := K.out
          obtain ⟨u_0, u_1, u_2, u_3, u_4, u_f0, u_f1, u_f2, u_f3, u_f4, u_l⟩ := U.out
          obtain ⟨v_0, v_1, v_2, v_3, v_4, v_f0, v_f1, v_f2, v_f3, v_f4, v_l⟩ := V.out
          go_wp2_with fail
          refine (bsane _).mono ?_
          rintro e w15 ⟨rfl, hb15⟩
          clear k_0 k_1 k_2 k_3 k_4 k_f0 k_f1 k_f2 k_f3 k_f4 k_l
          clear u_0 u_1 u_2 u_3 u_4 u_f0 u_f1 u_f2 u_f3 u_f4 u_l
          clear v_0 v_1 v_2 v_3 v_4 v_f0 v_f1 v_f2 v_f3 v_f4 v_l
          have Kn : Hid (BkAt w15 g x) := Lib.hid (BkAt.call (by repeat (first | exact K.out | refine BkAt.alloc ?_ _ | refine BkAt.drew ?_ | exact BkAt.new _ _ _)) hb15)
          have Un : Hid (BkAt w15 w12.heap.size u) := Lib.hid (BkAt.call (by repeat (first | exact U.out | refine BkAt.alloc ?_ _ | refine BkAt.drew ?_ | exact BkAt.new _ _ _)) hb15)
          have Vn : Hid (BkAt w15 w13.heap.size v) := Lib.hid (BkAt.call (by repeat (first | exact V.out | refine BkAt.alloc ?_ _ | refine BkAt.drew ?_ | exact BkAt.new _ _ _)) hb15)
          have HBn : Hid (Below w.heap.size w w15) := Lib.hid (below_call (by repeat (first | exact HB.out | refine below_al ?_ _ | refine Below.drew ?_)) hb15)
          have HDn : Hid (DiceAt w15 w.heap.size) := Lib.hid (DiceAt.below (by repeat (first | exact HD.out | refine DiceAt.alloc ?_ _ | refine DiceAt.drew ?_)) hb15)
          clear K
          have K := Kn
          clear Kn
          clear U
          have U := Un
          clear Un
          clear V
          have V := Vn
          clear Vn
          clear HB
          have HB := HBn
          clear HBn
          clear HD
          have HD := HDn
          clear HDn
          clear hb15
          obtain ⟨k_0, k_1, k_2, k_3, k_4, k_f0, k_f1, k_f2, k_f3, k_f4, k_l⟩ := K.out
          obtain ⟨u_0, u_1, u_2, u_3, u_4, u_f0, u_f1, u_f2, u_f3, u_f4, u_l⟩ := U.out
          obtain ⟨v_0, v_1, v_2, v_3, v_4, v_f0, v_f1, v_f2, v_f3, v_f4, v_l⟩ := V.out
          go_wp2
          go_ret
          exact ⟨rfl, HB.out⟩
        · go_wp2_with fail
          refine (TA.out _).mono ?_
          rintro e w12 ⟨rfl, hb12⟩
          clear k_0 k_1 k_2 k_3 k_4 k_f0 k_f1 k_f2 k_f3 k_f4 k_l
          have Kn : Hid (BkAt w12 g x) := Lib.hid (BkAt.call (by repeat (first | exact K.out | refine BkAt.alloc ?_ _ | refine BkAt.drew ?_ | exact BkAt.new _ _ _)) hb12)
          have HBn : Hid (Below w.heap.size w w12) := Lib.hid (below_call (by repeat (first | exact HB.out | refine below_al ?_ _ | refine Below.drew ?_)) hb12)
          have HDn : Hid (DiceAt w12 w.heap.size) := Lib.hid (DiceAt.below (by repeat (first | exact HD.out | refine DiceAt.alloc ?_ _ | refine DiceAt.drew ?_)) hb12)
          clear K
          have K := Kn
          clear Kn
          clear HB
          have HB := HBn
          clear HBn
          clear HD
          have HD := HDn
          clear HDn
          clear hb12
          obtain ⟨k_0, k_1, k_2, k_3, k_4, k_f0, k_f1, k_f2, k_f3, k_f4, k_l⟩ := K.out
          go_wp2_with fail
          refine (TB.out _).mono ?_
          rintro e w13 ⟨rfl, hb13⟩
          clear k_0 k_1 k_2 k_3 k_4 k_f0 k_f1 k_f2 k_f3 k_f4 k_l
          have Kn : Hid (BkAt w13 g x) := Lib.hid (BkAt.call (by repeat (first | exact K.out | refine BkAt.alloc ?_ _ | refine BkAt.drew ?_ | exact BkAt.new _ _ _)) hb13)
          have Un : Hid (BkAt w13 w12.heap.size u) := Lib.hid (BkAt.call (by repeat (first | exact BkAt.new _ _ _ | refine BkAt.alloc ?_ _ | refine BkAt.drew ?_)) hb13)
          have HBn : Hid (Below w.heap.size w w13) := Lib.hid (below_call (by repeat (first | exact HB.out | refine below_al ?_ _ | refine Below.drew ?_)) hb13)
          have HDn : Hid (DiceAt w13 w.heap.size) := Lib.hid (DiceAt.below (by repeat (first | exact HD.out | refine DiceAt.alloc ?_ _ | refine DiceAt.drew ?_)) hb13)
          clear K
          have K := Kn
          clear Kn
          have U := Un
          clear Un
          clear HB
          have HB := HBn
          clear HBn
          clear HD
          have HD := HDn
          clear HDn
          clear hb13
          obtain ⟨k_0, k_1, k_2, k_3, k_4, k_f0, k_f1, k_f2, k_f3, k_f4, k_l⟩ := K.out
          obtain ⟨u_0, u_1, u_2, u_3, u_4, u_f0, u_f1, u_f2, u_f3, u_f4, u_l⟩ := U.out
          go_wp2_with fail
          refine (TC.out _).mono ?_
          rintro e w14 ⟨rfl, hb14⟩
          clear k_0 k_1 k_2 k_3 k_4 k_f0 k_f1 k_f2 k_f3 k_f4 k_l
          clear u_0 u_1 u_2 u_3 u_4 u_f0 u_f1 u_f2 u_f3 u_f4 u_l
          have Kn : Hid (BkAt w14 g x) := Lib.hid (BkAt.call (by repeat (first | exact K.out | refine BkAt.alloc ?_ _ | refine BkAt.drew ?_ | exact BkAt.new _ _ _)) hb14)
          have Un : Hid (BkAt w14 w12.heap.size u) := Lib.hid (BkAt.call (by repeat (first | exact U.out | refine BkAt.alloc ?_ _ | refine BkAt.drew ?_ | exact BkAt.new _ _ _)) hb14)
          have Vn : Hid (BkAt w14 w13.heap.size v) := Lib.hid (BkAt.call (by repeat (first | exact BkAt.new _ _ _ | refine BkAt.alloc ?_ _ | refine BkAt.drew ?_)) hb14)
          have HBn : Hid (Below w.heap.size w w14) := Lib.hid (below_call (by repeat (first | exact HB.out | refine below_al ?_ _ | refine Below.drew ?_)) hb14)
          have HDn : Hid (DiceAt w14 w.heap.size) := Lib.hid (DiceAt.below (by repeat (first | exact HD.out | refine DiceAt.alloc ?_ _ | refine DiceAt.drew ?_)) hb14)
          clear K
          have K := Kn
          clear Kn
          clear U
          have U := Un
          clear Un
          have V := Vn
          clear Vn
          clear HB
          have HB := HBn
          clear HBn
          clear HD
          have HD := HDn
          clear HDn
          clear hb14
          obtain ⟨k_0, k_1, k_2, k_3, k_4, k_f0, k_f1, k_f2, k_f3, k_f4, k_l⟩ := K.out
          obtain ⟨u_0, u_1, u_2, u_3, u_4, u_f0, u_f1, u_f2, u_f3, u_f4, u_l⟩ := U.out
          obtain ⟨v_0, v_1, v_2, v_3, v_4, v_f0, v_f1, v_f2, v_f3, v_f4, v_l⟩ := V.out
          go_wp2_with fail
          refine (bsane _).mono ?_
          rintro e w15 ⟨rfl, hb15⟩
          clear k_0 k_1 k_2 k_3 k_4 k_f0 k_f1 k_f2 k_f3 k_f4 k_l
          clear u_0 u_1 u_2 u_3 u_4 u_f0 u_f1 u_f2 u_f3 u_f4 u_l
          clear v_0 v_1 v_2 v_3 v_4 v_f0 v_f1 v_f2 v_f3 v_f4 v_l
          have Kn : Hid (BkAt w15 g x) := Lib.hid (BkAt.call (by repeat (first | exact K.out | refine BkAt.alloc ?_ _ | refine BkAt.drew ?_ | exact BkAt.new _ _ _)) hb15)
          have Un : Hid (BkAt w15 w12.heap.size u) := Lib.hid (BkAt.call (by repeat (first | exact U.out | refine BkAt.alloc ?_ _ | refine BkAt.drew ?_ | exact BkAt.new _ _ _)) hb15)
          have Vn : Hid (BkAt w15 w13.heap.size v) := Lib.hid (BkAt.call (by repeat (first | exact V.out | refine BkAt.alloc ?_ _ | refine BkAt.drew ?_ | exact BkAt.new _ _ _)) hb15)
          have HBn : Hid (Below w.heap.size w w15) := Lib.hid (below_call (by repeat (first | exact HB.out | refine below_al ?_ _ | refine Below.drew ?_)) hb15)
          have HDn : Hid (DiceAt w15 w.heap.size) := Lib.hid (DiceAt.below (by repeat (first | exact HD.out | refine DiceAt.alloc ?_ _ | refine DiceAt.drew ?_)) hb15)
          clear K
          have K := Kn
          clear Kn
          clear U
          have U := Un
          clear Un
          clear V
          have V := Vn
          clear Vn
          clear HB
          have HB := HBn
          clear HBn
          clear HD
          have HD := HDn
          clear HDn
          clear hb15
          obtain ⟨k_0, k_1, k_2, k_3, k_4, k_f0, k_f1, k_f2, k_f3, k_f4, k_l⟩ := K.out
          obtain ⟨u_0, u_1, u_2, u_3, u_4, u_f0, u_f1, u_f2, u_f3, u_f4, u_l⟩ := U.out
          obtain ⟨v_0, v_1, v_2, v_3, v_4, v_f0, v_f1, v_f2, v_f3, v_f4, v_l⟩ := V.out
          go_wp2
          go_ret
          exact ⟨rfl, HB.out⟩


set_option maxHeartbeats 400000 in
theorem bsteps_heavy (a0 : Option Addr) (len0 cap0 : Nat) (a1 a2 : Int) (w : World) (hheavy : ¬ len0 ≤ 600) :
    Calls Try.prog 6 #[.slice a0 len0 cap0, .int .i64 a1, .int .i64 a2] w fun e w' => e = .returned (.bool true) ∧ Below w.heap.size w w' := by
  have hd : decide (len0 ≤ 600) = false := by simpa using hheavy
  have HL := Lib.hid (light_any a0 len0 cap0 w)
  rw [hd] at HL
  clear hd
  go_enter Try.func6, Try.ntmps6
  go_wp2_with fail
  refine HL.out.mono ?_
  rintro e w' ⟨rfl, rfl⟩
  go_wp2_with fail
  refine (bsane _).mono ?_
  rintro e w5 ⟨rfl, h5⟩
  go_wp2
  go_ret
  exact ⟨rfl, h5⟩
end Go.Proofs.Ytcfkmkabjalgjac
