/- The buckets that the dice make. -/
import Derived.Test.YtcfkmkabjalgjacBkrt
import Derived.Test.YtcfkmkabjalgjacPick
import Derived.Deep.RegionWith
import Derived.Deep.RegionHeld3
import Derived.IntWalk
import Derived.Test.YtcfkmkabjalgjacReg
namespace Go.Proofs.Ytcfkmkabjalgjac
open Go.RowKit
set_option linter.unusedVariables false
set_option linter.unusedSimpArgs false

/-- Of the blocks that were there, only b has turned. -/
structure Kept (b : Nat) (w w' : World) : Prop where
  os : w'.os = w.os
  tape : w'.tape = w.tape
  output : w'.output = w.output
  size : w.heap.size ≤ w'.heap.size
  block : ∀ k, k < w.heap.size → k ≠ b → w'.heap[k]? = w.heap[k]?
theorem Kept.refl (b : Nat) (w : World) : Kept b w w := ⟨rfl, rfl, rfl, Nat.le_refl _, fun _ _ _ => rfl⟩
theorem Kept.trans {b : Nat} {u v w : World} (h : Kept b u v) (k : Kept b v w) : Kept b u w :=
  ⟨k.os.trans h.os, k.tape.trans h.tape, k.output.trans h.output, Nat.le_trans h.size k.size, fun i hi hb => (k.block i (Nat.lt_of_lt_of_le hi h.size) hb).trans (h.block i hi hb)⟩
theorem Kept.rolled {b : Nat} {w w' : World} (h : Rolled b w w') : Kept b w w' := ⟨h.os, h.tape, h.output, by rw [h.size]; exact Nat.le_refl _, fun k _ hb => h.block k hb⟩
theorem Kept.below {b : Nat} {w w' : World} (h : Below w.heap.size w w') : Kept b w w' := ⟨h.os, h.tape, h.output, h.size, fun k hk _ => h.block k hk⟩
theorem Kept.alloc {b : Nat} {u w : World} (h : Kept b u w) (o : Obj) : Kept b u (w.alloc o) := h.trans (Kept.below (Below.alloc (Below.refl w.heap.size w) (Nat.le_refl _) o))
theorem Kept.set {b : Nat} {u w : World} (h : Kept b u w) (g o : Nat) (v : Value) (hg : u.heap.size ≤ g) : Kept b u (w.setCell ⟨g, o, none⟩ v) :=
  ⟨h.os, h.tape, h.output, Nat.le_trans h.size (by simp [World.setCell]), fun k hk hb => (Below.heap_setCell _ _ _ _ (show k ≠ g by omega)).trans (h.block k hk hb)⟩
theorem Kept.drewN {b : Nat} {u w : World} (h : Kept b u w) (n : Nat) : Kept b u (w.drewN n) := ⟨h.os, h.tape, h.output, h.size, h.block⟩
theorem Kept.toBelow {b B : Nat} {w w' : World} (h : Kept b w w') (hb : B ≤ b) (hB : B ≤ w.heap.size) : Below B w w' := ⟨h.os, h.tape, h.output, h.size, fun k hk => h.block k (by omega) (by omega)⟩

theorem DiceAt.alloc {w : World} {b : Nat} (h : DiceAt w b) (o : Obj) : DiceAt (w.alloc o) b := by
  have hb : b < w.heap.size := by obtain ⟨_, _, _, _, _, _, _, _, _, _, hb⟩ := h; exact hb
  exact h.keep (fun k hk => Below.heap_alloc _ _ _ (by omega)) (by simp)
theorem DiceAt.lt {w : World} {b : Nat} (h : DiceAt w b) : b < w.heap.size := by obtain ⟨_, _, _, _, _, _, _, _, _, _, hb⟩ := h; exact hb
theorem DiceAt.below {w w' : World} {b : Nat} (h : DiceAt w b) (hb : Below w.heap.size w w') : DiceAt w' b :=
  h.keep (fun k hk => hb.block k (by have := h.lt; omega)) hb.size
theorem DiceAt.set {w : World} {b : Nat} (h : DiceAt w b) (g o : Nat) (v : Value) (hg : b < g) : DiceAt (w.setCell ⟨g, o, none⟩ v) b :=
  h.keep (fun k hk => Below.heap_setCell _ _ _ _ (show k ≠ g by omega)) (by simp [World.setCell])
theorem BkAt.rolled {w w' : World} {h b : Nat} {x : Bk} (k : BkAt w h x) (hr : Rolled b w w') (hb : h ≠ b) : BkAt w' h x := by
  refine ⟨?_, ?_, ?_, ?_, ?_, ?_, ?_, ?_, ?_, ?_, by rw [hr.size]; exact k.lt⟩
  · rw [hr.cell (p := ⟨h, 0, none⟩) hb]; exact k.c0
  · rw [hr.cell (p := ⟨h, 1, none⟩) hb]; exact k.c1
  · rw [hr.cell (p := ⟨h, 2, none⟩) hb]; exact k.c2
  · rw [hr.cell (p := ⟨h, 3, none⟩) hb]; exact k.c3
  · rw [hr.cell (p := ⟨h, 4, none⟩) hb]; exact k.c4
  · rw [hr.frozen (p := ⟨h, 0, none⟩) hb]; exact k.f0
  · rw [hr.frozen (p := ⟨h, 1, none⟩) hb]; exact k.f1
  · rw [hr.frozen (p := ⟨h, 2, none⟩) hb]; exact k.f2
  · rw [hr.frozen (p := ⟨h, 3, none⟩) hb]; exact k.f3
  · rw [hr.frozen (p := ⟨h, 4, none⟩) hb]; exact k.f4

theorem DiceAt.drew {w : World} {b : Nat} (h : DiceAt w b) : DiceAt w.drew b := h.keep (fun _ _ => rfl) (Nat.le_refl _)
theorem Kept.drew {b : Nat} {u w : World} (h : Kept b u w) : Kept b u w.drew := ⟨h.os, h.tape, h.output, h.size, h.block⟩
theorem BkAt.drew {w : World} {h : Nat} {x : Bk} (k : BkAt w h x) : BkAt w.drew h x := ⟨k.c0, k.c1, k.c2, k.c3, k.c4, k.f0, k.f1, k.f2, k.f3, k.f4, k.lt⟩
theorem badv_t (b : Bk) (now : Int) (h0 : 0 ≤ now) : 0 ≤ (badv b now).1.t ∧ (badv b now).1.t ≤ now := by
  unfold badv
  repeat' split
  all_goals simp [zero]
  all_goals omega
theorem btake_t (b : Bk) (now n : Int) (h0 : 0 ≤ now) : 0 ≤ (btake b now n).1.t ∧ (btake b now n).1.t ≤ now := by
  have h := badv_t b now h0
  unfold btake
  repeat' split
  all_goals first | exact h | (simp [zero]; done) | (simp [zero]; omega)

/-- The cells of a bucket, of whatever world. -/
def BCells (g : Nat) (y : Bk) (v : World) : Prop :=
  v.cell? ⟨g, 0, none⟩ = some (.int .i64 y.r) ∧ v.cell? ⟨g, 1, none⟩ = some (.int .i64 y.p) ∧ v.cell? ⟨g, 2, none⟩ = some (.int .i64 y.s) ∧ v.cell? ⟨g, 3, none⟩ = some (.int .i64 y.l) ∧ v.cell? ⟨g, 4, none⟩ = some (.int .i64 y.t)

/-- What is known of the world in the middle of Bucket. -/
def Mid (b g : Nat) (w : World) (y : Bk) (v : World) : Prop := BkAt v g y ∧ BkAt v w.heap.size zero ∧ DiceAt v b ∧ Kept b w v
theorem Mid.cells {b g : Nat} {w v : World} {y : Bk} (h : Mid b g w y v) : BCells g y v := ⟨h.1.c0, h.1.c1, h.1.c2, h.1.c3, h.1.c4⟩
theorem Mid.drew {b g : Nat} {w v : World} {y : Bk} (h : Mid b g w y v) : Mid b g w y v.drew := ⟨h.1.drew, h.2.1.drew, h.2.2.1.drew, h.2.2.2.drew⟩
theorem Mid.rolled {b g : Nat} {w v v' : World} {y : Bk} (h : Mid b g w y v) (hr : Rolled b v v') (hd : DiceAt v' b) (hb : b < w.heap.size) (hg : b < g) : Mid b g w y v' :=
  ⟨h.1.rolled hr (by omega), h.2.1.rolled hr (by omega), hd, h.2.2.2.trans (Kept.rolled hr)⟩
theorem Mid.below {b g : Nat} {w v v' : World} {y : Bk} (h : Mid b g w y v) (hb : Below v.heap.size v v') : Mid b g w y v' :=
  ⟨h.1.below hb h.1.lt, h.2.1.below hb h.2.1.lt, h.2.2.1.below hb, h.2.2.2.trans (Kept.below hb)⟩
theorem Mid.store {b g : Nat} {w v : World} {y : Bk} (h : Mid b g w y v) (z : Bk) (hb : b < w.heap.size) (hg : w.heap.size < g) :
    Mid b g w z (((((v.setCell ⟨g, 0, none⟩ (.int .i64 z.r)).setCell ⟨g, 1, none⟩ (.int .i64 z.p)).setCell ⟨g, 2, none⟩ (.int .i64 z.s)).setCell ⟨g, 3, none⟩ (.int .i64 z.l)).setCell ⟨g, 4, none⟩ (.int .i64 z.t)) :=
  ⟨h.1.store z, h.2.1.afar _ _ _ _ _ (by omega), (((((h.2.2.1.set _ _ _ (by omega)).set _ _ _ (by omega)).set _ _ _ (by omega)).set _ _ _ (by omega)).set _ _ _ (by omega)),
   (((((h.2.2.2.set _ _ _ (by omega)).set _ _ _ (by omega)).set _ _ _ (by omega)).set _ _ _ (by omega)).set _ _ _ (by omega))⟩

/-- What a call of Bucket leaves. -/
def Buckets (b : Nat) (w : World) (e : Ending) (w' : World) : Prop :=
  ∃ x : Bk, Ok x ∧ x.t ≤ 40 ∧ e = .returned x.v ∧ DiceAt w' b ∧ Kept b w w'

theorem bnew_t (r p s t : Int) (h : 0 ≤ t ∧ t ≤ 4) : 0 ≤ (bnew r p s t).1.t ∧ (bnew r p s t).1.t ≤ 4 := by
  unfold bnew
  by_cases h1 : Ok ⟨r, p, if r = 4611686018427387904 then 0 else s, 0, t⟩
  · rw [if_pos h1]; exact h
  · rw [if_neg h1]; simp [zero]
def PickW (b : Nat) (w : World) (e : Ending) (w' : World) : Prop := ∃ v : Int, e = .returned (.int .i64 v) ∧ DiceAt w' b ∧ Rolled b w w'
theorem pick_weak (b a n : Nat) (f : Nat → Int) (w : World) (hD : DiceAt w b) (hn : 1 ≤ n) (hn9 : n ≤ 1000) (hab : a ≠ b) (hc : ∀ i, i < n → w.cell? ⟨a, i, none⟩ = some (.int .i64 (f i))) :
    Calls Try.prog 12 #[.pointer (some ⟨b, 0, none⟩), .slice (some ⟨a, 0, none⟩) n n] w (PickW b w) :=
  (pick_any b a n f w hD hn hn9 hab hc).mono fun e w' ⟨i, _, he, hd, hr⟩ => ⟨f i, he, hd, hr⟩

theorem bnew_back : bnew 3 2 10 0 = (⟨3, 2, 10, 20, 0⟩, 0) := by
  unfold bnew
  rw [if_pos (by unfold Ok; decide)]
  rfl

set_option maxRecDepth 100000 in
set_option maxHeartbeats 1000000 in
theorem bucket_made (b : Nat) (w : World) (hD : DiceAt w b) :
    Calls Try.prog 11 #[.pointer (some ⟨b, 0, none⟩)] w (Buckets b w) := by
  have HD := Lib.hid hD
  have hlt := hD.lt
  clear hD
  go_enter Try.func11, Try.ntmps11
  go_wp2_with fail
  refine (pick_weak b _ 7 (fun i => [0, 1, 3, 7, 100, 1073741824, 4611686018427387904].getD i 0) _ ((HD.out.alloc _).alloc _) (by omega) (by omega) (by omega) (fun i hi => ?_)).mono ?_
  · obtain rfl | rfl | rfl | rfl | rfl | rfl | rfl : i = 0 ∨ i = 1 ∨ i = 2 ∨ i = 3 ∨ i = 4 ∨ i = 5 ∨ i = 6 := by omega
    all_goals simp [go_sem]
  rintro e w1 ⟨v1, rfl, hd1, hr1⟩
  have Z1 : BkAt w1 w.heap.size zero := ((BkAt.new w zero 24).alloc _).rolled hr1 (by omega)
  have K1 : Kept b w w1 := (((Kept.refl b w).alloc _).alloc _).trans (Kept.rolled hr1)
  have HD1 := Lib.hid hd1
  have HZ1 := Lib.hid Z1
  have HK1 := Lib.hid K1
  have hs1 : w.heap.size + 1 < w1.heap.size := by have := hr1.size; simp at this; omega
  clear hd1 hr1 Z1 K1
  go_wp2_with fail
  refine (pick_weak b _ 6 (fun i => [1, 2, 3, 10, 100, 1048576].getD i 0) _ (HD1.out.alloc _) (by omega) (by omega) (by omega) (fun i hi => ?_)).mono ?_
  · obtain rfl | rfl | rfl | rfl | rfl | rfl : i = 0 ∨ i = 1 ∨ i = 2 ∨ i = 3 ∨ i = 4 ∨ i = 5 := by omega
    all_goals simp [go_sem]
  rintro e w2 ⟨v2, rfl, hd2, hr2⟩
  have HD2 := Lib.hid hd2
  have HZ2 := Lib.hid ((HZ1.out.alloc _).rolled hr2 (by omega))
  have HK2 := Lib.hid ((HK1.out.alloc _).trans (Kept.rolled hr2))
  have hs2 : w.heap.size + 1 < w2.heap.size := by have := hr2.size; simp at this; omega
  clear hd2 hr2 HZ1 HK1 HD1 hs1
  go_wp2_with fail
  refine (pick_weak b _ 5 (fun i => [0, 1, 10, 100, 1073741824].getD i 0) _ (HD2.out.alloc _) (by omega) (by omega) (by omega) (fun i hi => ?_)).mono ?_
  · obtain rfl | rfl | rfl | rfl | rfl : i = 0 ∨ i = 1 ∨ i = 2 ∨ i = 3 ∨ i = 4 := by omega
    all_goals simp [go_sem]
  rintro e w3 ⟨v3, rfl, hd3, hr3⟩
  have HD3 := Lib.hid hd3
  have HZ3 := Lib.hid ((HZ2.out.alloc _).rolled hr3 (by omega))
  have HK3 := Lib.hid ((HK2.out.alloc _).trans (Kept.rolled hr3))
  have hs3 : w.heap.size + 1 < w3.heap.size := by have := hr3.size; simp at this; omega
  clear hd3 hr3 HZ2 HK2 HD2 hs2
  go_wp2_with fail
  refine (next_any b 5 _ HD3.out (by omega)).mono ?_
  rintro e w4 ⟨k4, h40, h41, rfl, hd4, hr4⟩
  have HT := Lib.hid (bnew_t v1 v2 v3 k4 (by omega))
  have HD4 := Lib.hid hd4
  have HZ4 := Lib.hid (HZ3.out.rolled hr4 (by omega))
  have HK4 := Lib.hid (HK3.out.trans (Kept.rolled hr4))
  have hs4 : w.heap.size + 1 < w4.heap.size := by have := hr4.size; omega
  clear hd4 hr4 HZ3 HK3 HD3 hs3 h40 h41
  go_wp2_with fail
  refine (rnew_any v1 v2 v3 k4 _).mono ?_
  rintro e w5 ⟨rfl, hb5⟩
  obtain ⟨x, hx⟩ : ∃ x, (bnew v1 v2 v3 k4).1 = x := ⟨_, rfl⟩
  rw [hx] at HT ⊢
  clear hx
  have HD5 := Lib.hid (HD4.out.below hb5)
  have HZ5 := Lib.hid (HZ4.out.below hb5 HZ4.out.lt)
  have HK5 := Lib.hid (HK4.out.trans (Kept.below hb5))
  have hs5 : w.heap.size + 1 < w5.heap.size := by have := hb5.size; omega
  clear hb5 HZ4 HK4 HD4 hs4
  unfold Bk.v
  go_wp2_with fail
  refine (next_any b 4 _ (HD5.out.alloc _) (by omega)).mono ?_
  rintro e w6 ⟨k6, h60, h61, rfl, hd6, hr6⟩
  have h62 : k6 < 4 := by omega
  have HI := Lib.hid (show BkAt w6 w5.heap.size x ∧ BkAt w6 w.heap.size zero ∧ DiceAt w6 b ∧ Kept b w w6 from
    ⟨(BkAt.new w5 x 24).rolled hr6 (by omega), (HZ5.out.alloc _).rolled hr6 (by omega), hd6, (HK5.out.alloc _).trans (Kept.rolled hr6)⟩)
  generalize hg : w5.heap.size = g at *
  obtain ⟨n6, rfl⟩ := Int.eq_ofNat_of_zero_le h60
  have hn6 : n6 < 4 := by omega
  clear hd6 hr6 HZ5 HK5 HD5 h60 h61 h62 hg
  go_wp2_with fail
  go_loopw [5] (fun i wr => ∃ (k : Nat) (y : Bk), i = .int .i64 k ∧ k ≤ 3 ∧ Hid (0 ≤ y.t ∧ y.t + 8 * k ≤ 28) ∧ Hid (BkAt wr g y ∧ BkAt wr w.heap.size zero ∧ DiceAt wr b ∧ Kept b w wr)) (fun i _ => (intOf i).toNat)
  case atStart => exact ⟨n6, x, rfl, by omega, ⟨HT.out.1, by have := HT.out.2; omega⟩, HI.out⟩
  case round =>
    clear HI HT hn6
    obtain ⟨k, y, rfl, hk, HY, HI⟩ := hrel
    by_cases hk0 : 0 < k
    · have M0 := Lib.hid (show Mid b g w y wr from HI.out)
      obtain ⟨c0, c1, c2, c3, c4, f0, f1, f2, f3, f4, lt0⟩ := M0.out.1
      have y0 : 0 ≤ y.t := HY.out.1
      have y1 : y.t ≤ 28 := by have := HY.out; omega
      obtain ⟨m0, m1⟩ := btok_bd y
      have HTK := Lib.hid (fun w => rtok_any y w)
      obtain ⟨m, hm⟩ : ∃ m, btok y = m := ⟨_, rfl⟩
      rw [hm] at m0 m1 HTK
      clear HI hm
      unfold Bk.v at HTK
      go_upto_region 5 with fail
      have M1 := Lib.hid (M0.out.drew)
      clear c0 c1 c2 c3 c4 f0 f1 f2 f3 f4 lt0
      refine wp_region_D (S := BCells g y) (t := 11) (by kernel_rfl) ?_
      refine wpAnyD_take (i := 0) (v := ?_) [11] rfl (by kernel_rfl) (by kernel_rfl) (by kernel_rfl) (by kernel_rfl) (by kernel_rfl) (by kernel_rfl) (fun _ _ _ h => h) (Or.inl ⟨by rfl, ?_⟩) M1.out.cells ?_
      rotate_left
      · intro v hv
        obtain ⟨e0, e1, e2, e3, e4⟩ := hv
        go_simp
        try (with_reducible rfl)
      try simp only [Act.put, List.setIfInBounds_toArray, List.set_cons_zero, List.set_cons_succ]
      refine wpAnyD_take (i := 1) (v := ?_) [2, 5, 11] rfl (by kernel_rfl) (by kernel_rfl) (by kernel_rfl) (by kernel_rfl) (by kernel_rfl) (by kernel_rfl) (fun _ _ _ h => h) (Or.inl ⟨by rfl, ?_⟩) M1.out.cells ?_
      rotate_left
      · intro v hv
        clear hv
        go_simp
        try (with_reducible rfl)
      try simp only [Act.put, List.setIfInBounds_toArray, List.set_cons_zero, List.set_cons_succ]
      refine wpAnyD_take (i := 2) (v := ?_) [5, 11] rfl (by kernel_rfl) (by kernel_rfl) (by kernel_rfl) (by kernel_rfl) (by kernel_rfl) (by kernel_rfl) (fun _ _ _ h => h) (Or.inl ⟨by rfl, ?_⟩) M1.out.cells ?_
      rotate_left
      · intro v hv
        obtain ⟨e0, e1, e2, e3, e4⟩ := hv
        go_simp
        try (with_reducible rfl)
      try simp only [Act.put, List.setIfInBounds_toArray, List.set_cons_zero, List.set_cons_succ]
      refine wpAnyD_take (i := 3) (v := ?_) [4, 5, 11] rfl (by kernel_rfl) (by kernel_rfl) (by kernel_rfl) (by kernel_rfl) (by kernel_rfl) (by kernel_rfl) (fun _ _ _ h => h) (Or.inl ⟨by rfl, ?_⟩) M1.out.cells ?_
      rotate_left
      · intro v hv
        clear hv
        go_simp
        try (with_reducible rfl)
      try simp only [Act.put, List.setIfInBounds_toArray, List.set_cons_zero, List.set_cons_succ]
      refine wpAnyD_take (i := 6) (v := ?_) [10, 11] rfl (by kernel_rfl) (by kernel_rfl) (by kernel_rfl) (by kernel_rfl) (by kernel_rfl) (by kernel_rfl) (fun _ _ _ h => h) (Or.inl ⟨by rfl, ?_⟩) M1.out.cells ?_
      rotate_left
      · intro v hv
        clear hv
        go_simp
        try (with_reducible rfl)
      try simp only [Act.put, List.setIfInBounds_toArray, List.set_cons_zero, List.set_cons_succ]
      refine wpAnyD_take (i := 7) (v := ?_) [8, 9, 10, 11] rfl (by kernel_rfl) (by kernel_rfl) (by kernel_rfl) (by kernel_rfl) (by kernel_rfl) (by kernel_rfl) (fun _ _ _ h => h) (Or.inl ⟨by rfl, ?_⟩) M1.out.cells ?_
      rotate_left
      · intro v hv
        obtain ⟨e0, e1, e2, e3, e4⟩ := hv
        go_simp
        try (with_reducible rfl)
      try simp only [Act.put, List.setIfInBounds_toArray, List.set_cons_zero, List.set_cons_succ]
      refine wpAnyD_one (i := 4) rfl (by kernel_rfl) (fun K hK => ?_)
      have HK := Lib.hid hK
      clear hK
      go_simp
      refine (next_any b 9 _ M1.out.2.2.1 (by omega)).mono ?_
      rintro e w7 ⟨k7, h70, h71, rfl, hd7, hr7⟩
      have M7 := Lib.hid (M1.out.rolled hr7 hd7 hlt (by omega))
      clear hd7 hr7
      refine HK.out _ _ M7.out.cells ?_
      clear HK
      try simp only [Act.put, List.setIfInBounds_toArray, List.set_cons_zero, List.set_cons_succ]
      refine wpAnyD_take (i := 5) (v := ?_) [11] rfl (by kernel_rfl) (by kernel_rfl) (by kernel_rfl) (by kernel_rfl) (by kernel_rfl) (by kernel_rfl) (fun _ _ _ h => h) (Or.inl ⟨by rfl, ?_⟩) M7.out.cells ?_
      rotate_left
      · intro v hv
        clear hv
        go_simp
        try (with_reducible rfl)
      try simp only [Act.put, List.setIfInBounds_toArray, List.set_cons_zero, List.set_cons_succ]
      refine wpAnyD_one (i := 8) rfl (by kernel_rfl) (fun K hK => ?_)
      have HK := Lib.hid hK
      clear hK
      go_simp
      refine (HTK.out _).mono ?_
      rintro e w8 ⟨rfl, hb8⟩
      have M8 := Lib.hid (M7.out.below hb8)
      clear hb8
      refine HK.out _ _ M8.out.cells ?_
      clear HK
      try simp only [Act.put, List.setIfInBounds_toArray, List.set_cons_zero, List.set_cons_succ]
      refine wpAnyD_take (i := 9) (v := ?_) [10, 11] rfl (by kernel_rfl) (by kernel_rfl) (by kernel_rfl) (by kernel_rfl) (by kernel_rfl) (by kernel_rfl) (fun _ _ _ h => h) (Or.inl ⟨by rfl, ?_⟩) M8.out.cells ?_
      rotate_left
      · intro v hv
        clear hv
        go_simp
        try (with_reducible rfl)
      try simp only [Act.put, List.setIfInBounds_toArray, List.set_cons_zero, List.set_cons_succ]
      refine wpAnyD_one (i := 10) rfl (by kernel_rfl) (fun K hK => ?_)
      have HK := Lib.hid hK
      clear hK
      go_simp
      try rw [show IntKind.i64.wrap (1 + m) = 1 + m from IntWalk.i64_in _ (by omega)]
      refine (next_any b (1 + m) _ M8.out.2.2.1 (by omega)).mono ?_
      rintro e w9 ⟨k9, h90, h91, rfl, hd9, hr9⟩
      have M9 := Lib.hid (M8.out.rolled hr9 hd9 hlt (by omega))
      clear hd9 hr9
      refine HK.out _ _ M9.out.cells ?_
      clear HK
      try simp only [Act.put, List.setIfInBounds_toArray, List.set_cons_zero, List.set_cons_succ]
      refine wpAnyD_last (i := 11) rfl (by kernel_rfl) (by kernel_rfl) (fun K hK => ?_)
      have HK := Lib.hid hK
      clear hK
      go_simp
      try rw [show IntKind.i64.wrap (y.t + k7) = y.t + k7 from IntWalk.i64_in _ (by omega)]
      have ht := btake_t y (y.t + k7) k9 (by omega)
      refine (rtake_any y (y.t + k7) k9 _).mono ?_
      obtain ⟨z, ez, hz⟩ : ∃ z ez, btake y (y.t + k7) k9 = (z, ez) := ⟨_, _, rfl⟩
      rw [hz] at ht ⊢
      have HZ := Lib.hid ht
      clear hz ht
      rintro e w10 ⟨rfl, hb10⟩
      have M10 := Lib.hid (M9.out.below hb10)
      clear hb10
      unfold Bk.v
      simp only
      refine HK.out _ _ ?_
      clear HK
      try simp only [Act.put, List.setIfInBounds_toArray, List.set_cons_zero, List.set_cons_succ]
      refine wpAny_take (i := 12) (v := ?_) rfl (by kernel_rfl) (by kernel_rfl) (by kernel_rfl) (fun _ _ _ h => h) (Or.inl ⟨by rfl, ?_⟩) ?_
      rotate_left
      · intro v
        go_simp
        try (with_reducible rfl)
      try simp only [Act.put, List.setIfInBounds_toArray, List.set_cons_zero, List.set_cons_succ]
      refine wpAny_take (i := 13) (v := ?_) rfl (by kernel_rfl) (by kernel_rfl) (by kernel_rfl) (fun _ _ _ h => h) (Or.inl ⟨by rfl, ?_⟩) ?_
      rotate_left
      · intro v
        go_simp
        try (with_reducible rfl)
      try simp only [Act.put, List.setIfInBounds_toArray, List.set_cons_zero, List.set_cons_succ]
      refine wpAny_take (i := 14) (v := ?_) rfl (by kernel_rfl) (by kernel_rfl) (by kernel_rfl) (fun _ _ _ h => h) (Or.inl ⟨by rfl, ?_⟩) ?_
      rotate_left
      · intro v
        go_simp
        try (with_reducible rfl)
      try simp only [Act.put, List.setIfInBounds_toArray, List.set_cons_zero, List.set_cons_succ]
      refine wpAny_ready (rs := [15]) (by kernel_rfl) (by simp) ?_
      refine AllReady.cons rfl (fun K hK => ?_) AllReady.nil
      have HK := Lib.hid hK
      clear hK
      obtain ⟨c0, c1, c2, c3, c4, f0, f1, f2, f3, f4, lt0⟩ := M10.out.1
      go_simp
      refine HK.out _ _ ?_
      clear HK
      refine wpAny_done (by kernel_rfl) ?_ _
      try simp only [Act.put, List.setIfInBounds_toArray, List.set_cons_zero, List.set_cons_succ]
      have HS := Lib.hid (M10.out.store z (by omega) (by omega))
      clear c0 c1 c2 c3 c4 f0 f1 f2 f3 f4 lt0
      go_wp2_with fail
      go_roundw
      case rel =>
        have hz := HZ.out
        have hy := HY.out
        simp only at hz
        refine ⟨k - 1, z, ?_, by omega, ⟨hz.1, by omega⟩, HS.out⟩
        rw [show ((k - 1 : Nat) : Int) = (k : Int) - 1 by omega]
      case measure => simp [intOf]; omega
    · obtain ⟨b0, b1, hd, hkp⟩ := HI.out
      obtain ⟨c0, c1, c2, c3, c4, f0, f1, f2, f3, f4, lt0⟩ := b0
      have hdk := Lib.hid hd
      have hkk := Lib.hid hkp
      have hb1 := Lib.hid b1
      clear hd hkp b1
      by_cases hok : Ok y
      · go_wp2_with fail
        refine (rvalid_yes y _ hok).mono ?_
        rintro e w7 ⟨rfl, hb7⟩
        have k0 := BkAt.below ⟨c0, c1, c2, c3, c4, f0, f1, f2, f3, f4, lt0⟩ hb7 lt0
        have k1 := hb1.out.below hb7 hb1.out.lt
        have HKK := Lib.hid (hkk.out.trans (Kept.below hb7))
        have HDD := Lib.hid (hdk.out.below hb7)
        clear c0 c1 c2 c3 c4 f0 f1 f2 f3 f4 lt0 hb7 hb1 hkk hdk HI
        obtain ⟨c0, c1, c2, c3, c4, f0, f1, f2, f3, f4, lt0⟩ := k0
        obtain ⟨d0, d1, d2, d3, d4, j0, j1, j2, j3, j4, lt1⟩ := k1
        go_wp2
        refine bodyPost_ret (v := y.v) (by simp [results, Try.results11, go_sem, d0, d1, d2, d3, d4, Bk.v]) rfl ?_
        exact ⟨y, hok, by have := HY.out; omega, rfl, (((((HDD.out.set _ _ _ (by omega)).set _ _ _ (by omega)).set _ _ _ (by omega)).set _ _ _ (by omega)).set _ _ _ (by omega)), (((((HKK.out.set _ _ _ (by omega)).set _ _ _ (by omega)).set _ _ _ (by omega)).set _ _ _ (by omega)).set _ _ _ (by omega))⟩
      · go_wp2_with fail
        refine (rvalid_no y _ hok).mono ?_
        rintro e w7 ⟨rfl, hb7⟩
        have HB0 := Lib.hid (BkAt.below ⟨c0, c1, c2, c3, c4, f0, f1, f2, f3, f4, lt0⟩ hb7 lt0)
        have HB1 := Lib.hid (hb1.out.below hb7 hb1.out.lt)
        have HKK := Lib.hid (hkk.out.trans (Kept.below hb7))
        have HDD := Lib.hid (hdk.out.below hb7)
        clear c0 c1 c2 c3 c4 f0 f1 f2 f3 f4 lt0 hb7 hb1 hkk hdk HI
        go_upto_region 7 with fail
        go_cut [] (fun wx => BkAt wx g ⟨3, 2, 10, 20, 0⟩ ∧ BkAt wx w.heap.size zero ∧ DiceAt wx b ∧ Kept b w wx)
        case first =>
          go_wp2_with fail
          refine (rnew_any 3 2 10 0 _).mono ?_
          rw [bnew_back]
          rintro e w8 ⟨rfl, hb8⟩
          have hb0 := HB0.out.below hb8 HB0.out.lt
          have HN0 := Lib.hid hb0
          have HN1 := Lib.hid (HB1.out.below hb8 HB1.out.lt)
          have HK8 := Lib.hid (HKK.out.trans (Kept.below hb8))
          have HD8 := Lib.hid (HDD.out.below hb8)
          clear hb8 HB0 HB1 HKK HDD
          obtain ⟨c0, c1, c2, c3, c4, f0, f1, f2, f3, f4, lt0⟩ := hb0
          unfold Bk.v
          simp only
          go_wp2_with fail
          go_meet
          case rel => exact ⟨HN0.out.store ⟨3, 2, 10, 20, 0⟩, HN1.out.afar _ _ _ _ _ (by omega), (((((HD8.out.set _ _ _ (by omega)).set _ _ _ (by omega)).set _ _ _ (by omega)).set _ _ _ (by omega)).set _ _ _ (by omega)), (((((HK8.out.set _ _ _ (by omega)).set _ _ _ (by omega)).set _ _ _ (by omega)).set _ _ _ (by omega)).set _ _ _ (by omega))⟩
        case rest =>
          obtain ⟨k0, k1, hd9, hk9⟩ := hcut
          have HK9 := Lib.hid hk9
          have HD9 := Lib.hid hd9
          clear hk9 hd9
          obtain ⟨c0, c1, c2, c3, c4, f0, f1, f2, f3, f4, lt0⟩ := k0
          obtain ⟨d0, d1, d2, d3, d4, j0, j1, j2, j3, j4, lt1⟩ := k1
          go_wp2
          refine bodyPost_ret (v := Bk.v ⟨3, 2, 10, 20, 0⟩) (by simp [results, Try.results11, go_sem, d0, d1, d2, d3, d4, Bk.v]) rfl ?_
          exact ⟨⟨3, 2, 10, 20, 0⟩, by decide, by decide, rfl, (((((HD9.out.set _ _ _ (by omega)).set _ _ _ (by omega)).set _ _ _ (by omega)).set _ _ _ (by omega)).set _ _ _ (by omega)), (((((HK9.out.set _ _ _ (by omega)).set _ _ _ (by omega)).set _ _ _ (by omega)).set _ _ _ (by omega)).set _ _ _ (by omega))⟩
end Go.Proofs.Ytcfkmkabjalgjac
