/- Contracts of functions, told of values, on the way to WorkloadExact. -/
import Derived.Test.YtdpekegikbbeoaaTyDa
import Derived.Test.YtdpekegikbbeoaaWkbDa
-- NEWGO
-- PRUNE: cl_lendx cg_tp cg_ts cg_any cg_show
namespace Go.Proofs.Ytdpekegikbbeoaa
set_option linter.unusedVariables false
set_option linter.unusedSimpArgs false
open Go.Proofs.Ytdpekegikbbeoaa.Sh
set_option maxRecDepth 20000
theorem sOk_n {m : Int} {s : Stp} (h1 : sOk m s = true) (hk : s.k = 1) : 1 ≤ s.n := by
  unfold sOk at h1
  rw [if_pos hk] at h1
  unfold rAm at h1
  rw [Bool.and_eq_true, Bool.and_eq_true, wi_iff] at h1
  omega
theorem stp_in {p : List (List Stp)} {r : Rr} {a : Int} (hv : vOk p = true) (hq : 0 ≤ r.p ∧ r.p < p.length) (ha : 0 ≤ a ∧ a < (stl p r).length) : sOk p.length ((stl p r).getD a.toNat sz) = true := by
  unfold vOk at hv
  rw [Bool.and_eq_true, decide_eq_true_eq, List.all_eq_true] at hv
  have h2 : r.p.toNat < p.length := by omega
  have h3 := hv.2 (stl p r) (by unfold stl; rw [List.getD_eq_getElem?_getD, List.getElem?_eq_getElem h2]; exact List.getElem_mem _)
  unfold tOk at h3
  rw [Bool.and_eq_true, List.all_eq_true] at h3
  have h6 : a.toNat < (stl p r).length := by omega
  exact h3.2 _ (by rw [List.getD_eq_getElem?_getD, List.getElem?_eq_getElem h6]; exact List.getElem_mem _)
theorem snd_gTo {p : List (List Stp)} {r : Rr} {a : Int} (hv : vOk p = true) (ht : 1 ≤ r.t ∧ r.t ≤ 2147483647) (hq : 0 ≤ r.p ∧ r.p < p.length) (ha : 0 ≤ a ∧ a ≤ (stl p r).length) :
    snd p (gTo p r a) = true ∧ (gTo p r a).t = r.t ∧ (gTo p r a).p = r.p ∧ (gTo p r a).a = a ∧ (gTo p r a).u = 0 ∧ (((gTo p r a).s = 4 ∧ a = (stl p r).length) ∨ ((gTo p r a).s = 0 ∧ a < (stl p r).length)) := by
  have hw1 : wi r.t 1 2147483647 = true := wi_iff.2 ht
  have hw2 : wi r.p 0 (p.length - 1) = true := wi_iff.2 (by omega)
  unfold gTo
  split
  · rename_i he
    refine ⟨?_, rfl, rfl, rfl, rfl, .inl ⟨rfl, he⟩⟩
    have e : stl p ⟨r.t, r.p, a, 0, 4, 0⟩ = stl p r := rfl
    unfold snd
    simp only [hv, hw1, hw2, e, decide_eq_true he, if_true, Bool.and_true, decide_true]
  · rename_i he
    refine ⟨?_, rfl, rfl, rfl, rfl, .inr ⟨rfl, by omega⟩⟩
    have e : stl p ⟨r.t, r.p, a, lft ((stl p r).getD a.toNat sz), 0, 0⟩ = stl p r := rfl
    have e2 : stp p ⟨r.t, r.p, a, lft ((stl p r).getD a.toNat sz), 0, 0⟩ = (stl p r).getD a.toNat sz := rfl
    have hw3 : wi a 0 ((stl p r).length - 1) = true := wi_iff.2 (by omega)
    have hs := stp_in hv hq (a := a) (by omega)
    unfold snd snd1
    simp only [hv, hw1, hw2, e, e2, hw3, Bool.and_true, Int.reduceEq, if_false]
    generalize (stl p r).getD a.toNat sz = x at *
    have h0 : wi 0 0 3 = true := by decide
    have h00 : sWait 0 0 = true := by decide
    rw [h0, h00]
    unfold sLeft lft
    by_cases hk : x.k = 1
    · have := sOk_n hs hk
      simp only [if_pos hk, Bool.true_and, Bool.and_true]
      exact wi_iff.2 ⟨this, Int.le_refl _⟩
    · simp only [if_neg hk, Bool.true_and, Bool.and_true, decide_true]
theorem snd_wait {p : List (List Stp)} {r : Rr} {st u : Int} (h1 : snd p r = true) (h4 : r.s ≠ 4) (h5 : (wi st 1 3 && sWait st u) = true) : snd p { r with s := st, u := u } = true := by
  rw [Bool.and_eq_true, wi_iff] at h5
  have hst : ¬ st = 4 := by omega
  have h6 : wi st 0 3 = true := wi_iff.2 (by omega)
  unfold snd at h1 ⊢
  rw [if_neg h4] at h1
  unfold snd1 at h1 ⊢
  have e : stl p { r with s := st, u := u } = stl p r := rfl
  have e2 : stp p { r with s := st, u := u } = stp p r := rfl
  simp only [e, e2, if_neg hst, h6, h5.2, Bool.and_true, Bool.true_and, Bool.and_eq_true] at h1 ⊢
  exact ⟨h1.1, h1.2.1.2, h1.2.2.1⟩
end Go.Proofs.Ytdpekegikbbeoaa
