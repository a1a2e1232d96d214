/- Plain facts on takes: what BucketBounds asks. -/
import Derived.Test.YtcfkmkabjalgjacBkn
import Derived.Test.YtcfkmkabjalgjacWk
namespace Go.Proofs.Ytcfkmkabjalgjac
open Go.RowKit
set_option linter.unusedVariables false
set_option linter.unusedSimpArgs false

theorem take_bd (r p s l t j n : Int) (h : Ok ⟨r, p, s, l, t⟩) (hr : ¬ r = 4611686018427387904) (j0 : 0 ≤ j) (h2 : t + j ≤ 1048576) (n0 : 0 ≤ n) (n1 : n ≤ 1000) :
    ∃ l' e : Int, btake ⟨r, p, s, l, t⟩ (t + j) n = (⟨r, p, s, l', t + j⟩, e) ∧ Ok ⟨r, p, s, l', t + j⟩ ∧ ((e = 0 ∧ l' + n * p ≤ l + r * j) ∨ (e = 11 ∧ l' ≤ l + r * j ∧ btok ⟨r, p, s, l', t + j⟩ < n)) := by
  have e1 := adv_shut ⟨r, p, s, l, t⟩ (t + j) h hr (by simp only; omega) h2
  simp only at e1
  rw [show t + j - t = j by omega] at e1
  have k1 := (badv_ok _ _ _ e1).1
  have t1 := take_is _ _ (t + j) n e1 n0 (by omega)
  obtain ⟨q, hq⟩ : ∃ q, (if s * p < l + r * j then s * p else l + r * j) = q := ⟨_, rfl⟩
  rw [hq] at t1 k1
  simp only [hr, if_false] at t1
  have hql : q ≤ l + r * j := by subst hq; split <;> omega
  obtain ⟨o1, o2, o3, o4, o5, o6, o7, o8, o9, o10, o11⟩ := ok_shut _ k1 hr
  simp only at o1 o2 o3 o4 o5 o6 o7 o8 o9 o10 o11
  have hn := Int.mul_nonneg n0 (show 0 ≤ p by omega)
  by_cases hy : q < n * p
  · rw [if_pos hy] at t1
    refine ⟨q, 11, t1, k1, .inr ⟨rfl, hql, ?_⟩⟩
    unfold btok
    rw [if_neg (by simpa using k1), if_neg hr]
    exact Int.ediv_lt_of_lt_mul (show 0 < p by omega) hy
  · rw [if_neg hy] at t1
    refine ⟨q - n * p, 0, t1, ?_, .inl ⟨rfl, by omega⟩⟩
    unfold Ok; simp only [hr, if_false]
    exact ⟨o1, o2, o3, o4, o5, o6, o7, o8, by omega, by omega⟩

theorem below_set5 {w W : World} {g : Nat} (h : Below w.heap.size w W) (hg : w.heap.size ≤ g) (v0 v1 v2 v3 v4 : Value) :
    Below w.heap.size w (((((W.setCell ⟨g, 0, none⟩ v0).setCell ⟨g, 1, none⟩ v1).setCell ⟨g, 2, none⟩ v2).setCell ⟨g, 3, none⟩ v3).setCell ⟨g, 4, none⟩ v4) :=
  ((((h.setCell (p := ⟨g, 0, none⟩) hg v0).setCell (p := ⟨g, 1, none⟩) hg v1).setCell (p := ⟨g, 2, none⟩) hg v2).setCell (p := ⟨g, 3, none⟩) hg v3).setCell (p := ⟨g, 4, none⟩) hg v4
theorem DiceAt.set5 {W : World} {b g : Nat} (h : DiceAt W b) (hg : b < g) (v0 v1 v2 v3 v4 : Value) :
    DiceAt (((((W.setCell ⟨g, 0, none⟩ v0).setCell ⟨g, 1, none⟩ v1).setCell ⟨g, 2, none⟩ v2).setCell ⟨g, 3, none⟩ v3).setCell ⟨g, 4, none⟩ v4) b :=
  ((((h.set g 0 v0 hg).set g 1 v1 hg).set g 2 v2 hg).set g 3 v3 hg).set g 4 v4 hg
theorem BkAt.new0 (w : World) (T : TypeId) : BkAt (w.alloc (.cells #[.int .i64 0, .int .i64 0, .int .i64 0, .int .i64 0, .int .i64 0] T)) w.heap.size zero := BkAt.new w zero T
theorem BkAt.bcells {w : World} {h : Nat} {x : Bk} (k : BkAt w h x) : BCells h x w := ⟨k.c0, k.c1, k.c2, k.c3, k.c4⟩

/-- What holds at each round: the sum m, the level l, the time t. -/
def BdInv (x : Bk) (l t m : Int) (k : Nat) : Prop := 0 ≤ m ∧ x.t ≤ t ∧ m * x.p + l ≤ x.l + x.r * (t - x.t) ∧ m ≤ 20 * k
theorem bd_start (x : Bk) : BdInv x x.l x.t 0 0 := ⟨by omega, by omega, by rw [show x.t - x.t = 0 by omega, Int.mul_zero]; omega, by omega⟩
theorem lev_bd (x : Bk) (h : Ok x) (hr : ¬ x.r = 4611686018427387904) : x.l ≤ 1125899906842624 := by
  obtain ⟨o1, o2, o3, o4, o5, o6, o7, o8, o9, o10, o11⟩ := ok_shut x h hr
  have := (mul_bd o7 o8 (show 0 ≤ x.p by omega) o2).2
  omega
theorem inv_a (x : Bk) (l t m n j l2 : Int) (k : Nat) (hi : BdInv x l t m k) (j0 : 0 ≤ j) (n0 : 0 ≤ n) (n1 : n ≤ 20) (hc : l2 + n * x.p ≤ l + x.r * j) : BdInv x l2 (t + j) (m + n) (k + 1) := by
  obtain ⟨h1, h2, h3, h4⟩ := hi
  refine ⟨by omega, by omega, ?_, by omega⟩
  rw [Int.add_mul, show t + j - x.t = (t - x.t) + j by omega, Int.mul_add]
  omega
theorem inv_b (x : Bk) (l t m n j l2 : Int) (k : Nat) (hi : BdInv x l t m k) (j0 : 0 ≤ j) (n0 : 0 ≤ n) (n1 : n ≤ 20) (hc : l2 ≤ l + x.r * j ∧ btok ⟨x.r, x.p, x.s, l2, t + j⟩ < n) : BdInv x l2 (t + j) m (k + 1) := by
  obtain ⟨h1, h2, h3, h4⟩ := hi
  refine ⟨by omega, by omega, ?_, by omega⟩
  rw [show t + j - x.t = (t - x.t) + j by omega, Int.mul_add]
  omega
theorem bounds_of (x : Bk) (l2 t2 m2 : Int) (k : Nat) (h : Ok x) (hr : ¬ x.r = 4611686018427387904) (hi : BdInv x l2 t2 m2 k) (hk : k ≤ 21) (h2 : Ok ⟨x.r, x.p, x.s, l2, t2⟩) (x3 : 0 ≤ x.t) :
    m2 * x.p ≤ x.l + x.r * (t2 - x.t) ∧ 0 ≤ x.r * (t2 - x.t) ∧ x.r * (t2 - x.t) ≤ 1125899906842624 ∧ 0 ≤ m2 * x.p ∧ m2 * x.p ≤ 1125899906842624 := by
  obtain ⟨o1, o2, o3, o4, o5, o6, o7, o8, o9, o10, o11⟩ := ok_shut x h hr
  obtain ⟨q1, q2, q3, q4, q5, q6, q7, q8, q9, q10, q11⟩ := ok_shut _ h2 hr
  obtain ⟨h1, h2, h3, h4⟩ := hi
  simp only at q3 q4 q9
  have a := mul_bd o5 o6 (show 0 ≤ t2 - x.t by omega) (show t2 - x.t ≤ 1048576 by omega)
  have b := mul_bd h1 (show m2 ≤ 1000 by omega) (show 0 ≤ x.p by omega) o2
  omega
theorem bounds_a (x : Bk) (l t m n j l2 : Int) {k : Nat} (h : Ok x) (hr : ¬ x.r = 4611686018427387904) (hi : BdInv x l t m k) (x3 : 0 ≤ x.t) (j0 : 0 ≤ j) (j2 : j < 9) (hk : k ≤ 20) (n0 : 0 ≤ n) (n1 : n ≤ 20) (h2 : Ok ⟨x.r, x.p, x.s, l2, t + j⟩) (hc : l2 + n * x.p ≤ l + x.r * j) :
    (m + n) * x.p ≤ x.l + x.r * (t + j - x.t) ∧ 0 ≤ x.r * (t + j - x.t) ∧ x.r * (t + j - x.t) ≤ 1125899906842624 ∧ 0 ≤ (m + n) * x.p ∧ (m + n) * x.p ≤ 1125899906842624 :=
  bounds_of x l2 (t + j) (m + n) (k + 1) h hr (inv_a x l t m n j l2 k hi j0 n0 n1 hc) (by omega) h2 x3
theorem bounds_b (x : Bk) (l t m n j l2 : Int) {k : Nat} (h : Ok x) (hr : ¬ x.r = 4611686018427387904) (hi : BdInv x l t m k) (x3 : 0 ≤ x.t) (j0 : 0 ≤ j) (j2 : j < 9) (hk : k ≤ 20) (n0 : 0 ≤ n) (n1 : n ≤ 20) (h2 : Ok ⟨x.r, x.p, x.s, l2, t + j⟩) (hc : l2 ≤ l + x.r * j ∧ btok ⟨x.r, x.p, x.s, l2, t + j⟩ < n) :
    m * x.p ≤ x.l + x.r * (t + j - x.t) ∧ 0 ≤ x.r * (t + j - x.t) ∧ x.r * (t + j - x.t) ≤ 1125899906842624 ∧ 0 ≤ m * x.p ∧ m * x.p ≤ 1125899906842624 :=
  bounds_of x l2 (t + j) m (k + 1) h hr (inv_b x l t m n j l2 k hi j0 n0 n1 hc) (by omega) h2 x3
end Go.Proofs.Ytcfkmkabjalgjac
