/- Contracts of functions, told of values, on the way to BandwidthDrains. -/
import Derived.Test.YtlaplcjenndigaaTyBa
import Derived.Test.YtlaplcjenndigaaDiceBa
import Derived.Test.YtlaplcjenndigaaBw8Ba
-- NEWGO
-- PRUNE: cg_tp cg_ts cg_any cg_show cl_use cl_show cl_lendx
namespace Go.Proofs.Ytlaplcjenndigaa
set_option linter.unusedVariables false
set_option linter.unusedSimpArgs false
open Go.Proofs.Ytlaplcjenndigaa.Sh
set_option maxRecDepth 20000
theorem nxV_rng (l : List Int) (i : Nat) (n : Int) (h : 0 < n) : 0 ≤ nxV l i n ∧ nxV l i n < n := by
  unfold nxV
  split
  · omega
  · exact ⟨Int.emod_nonneg _ (by omega), Int.emod_lt_of_pos _ h⟩
/-- another pool, of the same group, limits and processors -/
theorem pck_mk {x y : Pl} (h : pck x = true) (eg : y.g = x.g) (eq : y.q = x.q) (eb : y.b = x.b) (es : y.s = x.s) (el : y.c.length = x.c.length) (h0 : ∀ i, 0 ≤ y.c.getD i 0) (hl : 0 ≤ y.l) (hh : hld y ≤ mst x)
    (hsp : 0 ≤ y.sp ∧ y.sp ≤ 1099511627776) (hpe : 0 ≤ y.pe ∧ y.pe ≤ 1099511627776) (hth : 0 ≤ y.th ∧ y.th ≤ (if y.em = true then y.pe else y.pe - 1)) : pck y = true ∧ mst y = mst x := by
  have hn := pck_iff.1 h
  have em : mst y = mst x := by unfold mst lim; rw [eq, eb]
  have hc := call_of h0 hl (by rw [em]; exact hh)
  refine ⟨?_, em⟩
  rw [pck_iff, eg, eq, eb, es, el]
  exact ⟨hn.1, hn.2.1, hn.2.2.1, hn.2.2.2.1, ⟨hc.1, ⟨hl, hc.2⟩, by rw [em]; exact hh⟩, hsp, hpe, hth⟩
theorem getD_set_ge {c : List Int} {i : Nat} {v : Int} (h0 : ∀ j, 0 ≤ c.getD j 0) (hv : 0 ≤ v) (hi : i < c.length) : ∀ j, 0 ≤ (c.set i v).getD j 0 := fun j => by
  by_cases e : i = j
  · subst e; rw [getD_set_self hi]; exact hv
  · rw [getD_set_ne e]; exact h0 j
theorem pmv_ok {x : Pl} {cpu n : Int} (h : pck x = true) (hc : 0 ≤ cpu ∧ cpu < x.c.length) (hn : n ≤ x.l) (hn2 : 0 ≤ x.c.getD cpu.toNat 0 + n) : pck (pmv x cpu n) = true ∧ hld (pmv x cpu n) = hld x ∧ mst (pmv x cpu n) = mst x := by
  have hN := nums h
  have h0 := fun i => (pck_all h i).1
  have hi : cpu.toNat < x.c.length := by omega
  have hh : hld (pmv x cpu n) = hld x := by
    simp only [hld, pmv]
    rw [tot_set hi]; omega
  have := pck_mk (y := pmv x cpu n) h rfl rfl rfl rfl (by simp [pmv]) (getD_set_ge h0 hn2 hi) (by simp only [pmv]; omega) (by rw [hh]; exact hN.h) hN.sp hN.pe hN.th
  exact ⟨this.1, hh, this.2⟩
theorem ptk_ok {x : Pl} {cpu : Int} (h : pck x = true) (hc : 0 ≤ cpu ∧ cpu < x.c.length) : pck (ptk x cpu) = true ∧ hld (ptk x cpu) = hld x ∧ mst (ptk x cpu) = mst x := by
  have hN := nums h
  have h1 := hN.s
  have h2 := hN.l
  have h3 := pck_all h cpu.toNat
  have h4 : 0 ≤ mn x.s x.l ∧ mn x.s x.l ≤ x.l := by unfold mn; split <;> omega
  exact pmv_ok h hc (by omega) (by omega)
theorem pret_ok {x : Pl} {cpu : Int} (h : pck x = true) (hc : 0 ≤ cpu ∧ cpu < x.c.length) : pck (pret x cpu) = true ∧ hld (pret x cpu) = hld x ∧ mst (pret x cpu) = mst x := by
  have h3 := pck_all h cpu.toNat
  have hN := nums h
  have h2 := hN.l
  have e : pmv x cpu (0 - x.c.getD cpu.toNat 0) = pret x cpu := by
    simp only [pmv, pret]
    congr 1
    · omega
    · congr 1; omega
  rw [← e]
  exact pmv_ok h hc (by omega) (by omega)
theorem pfil_ok {x : Pl} (h : pck x = true) (hp : x.pe ≠ 1099511627776) : pck (pfil x) = true ∧ hld (pfil x) = (if lim x = true then mn (hld x + x.q) (mst x) else 0) ∧ mst (pfil x) = mst x := by
  have hN := nums h
  have h0 := fun i => (pck_all h i).1
  have h1 := hN.pe
  have h2 := hN.th
  have h3 := hN.h
  have h4 := hN.l
  have h5 := hN.st
  have h6 := hld_ge h
  have hm := hN.m
  have hh : hld (pfil x) = (if lim x = true then mn (hld x + x.q) (mst x) else 0) := by
    have : hld (pfil x) = hld x + (if lim x = true then mn x.q (mst x - hld x) else 0) := by simp only [hld, pfil]; omega
    rw [this]
    cases hx : lim x with
    | true => simp only [if_true, mn]; split <;> split <;> omega
    | false =>
      have : mst x = 0 := by simp [mst, hx]
      simp only [Bool.false_eq_true, if_false]; omega
  have hle : hld (pfil x) ≤ mst x := by
    rw [hh]; split
    · have := mn_le (hld x + x.q) (mst x); omega
    · omega
  have := pck_mk (y := pfil x) h rfl rfl rfl rfl rfl h0 (by
    show 0 ≤ x.l + (if lim x = true then mn x.q (mst x - hld x) else 0)
    split
    · have : 0 ≤ mn x.q (mst x - hld x) := by unfold mn; split <;> omega
      omega
    · omega) hle ⟨Int.le_refl _, by simp [pfil]⟩ (by simp only [pfil]; omega) (by
      show 0 ≤ x.th ∧ x.th ≤ (if false = true then x.pe + 1 else x.pe + 1 - 1)
      simp only [Bool.false_eq_true, if_false]
      split at h2 <;> omega)
  exact ⟨this.1, hh, this.2⟩
theorem msp_rng {x : Pl} (h : pck x = true) : 0 ≤ msp x ∧ msp x ≤ 1099511627776 := by
  have := (nums h).sp
  unfold msp mn; split <;> omega
theorem pdec_ok {x : Pl} {cpu : Int} (h : pck x = true) (hc : 0 ≤ cpu ∧ cpu < x.c.length) (h1 : 1 ≤ x.c.getD cpu.toNat 0) : pck (pdec x cpu) = true ∧ hld (pdec x cpu) = hld x - 1 ∧ mst (pdec x cpu) = mst x := by
  have hN := nums h
  have h0 := fun i => (pck_all h i).1
  have hi : cpu.toNat < x.c.length := by omega
  have hh : hld (pdec x cpu) = hld x - 1 := by
    simp only [hld, pdec]
    rw [tot_set hi]; omega
  have := pck_mk (y := pdec x cpu) h rfl rfl rfl rfl (by simp [pdec]) (getD_set_ge h0 (by omega) hi) hN.l.1 (by rw [hh]; have := hN.h; omega) (msp_rng h) hN.pe hN.th
  exact ⟨this.1, hh, this.2⟩
theorem pemp_ok {x : Pl} (h : pck x = true) : pck (pemp x) = true ∧ hld (pemp x) = hld x ∧ mst (pemp x) = mst x := by
  have hN := nums h
  have h0 := fun i => (pck_all h i).1
  have := pck_mk (y := pemp x) h rfl rfl rfl rfl rfl h0 hN.l.1 hN.h hN.sp hN.pe (by
    have h2 := hN.th
    simp only [pemp, if_true]
    split at h2
    · rename_i e; rw [if_pos e]; omega
    · rename_i e; rw [if_neg e]; omega)
  exact ⟨this.1, rfl, this.2⟩
theorem psp_ok {x : Pl} (h : pck x = true) : pck { x with sp := msp x } = true ∧ hld { x with sp := msp x } = hld x ∧ mst { x with sp := msp x } = mst x := by
  have hN := nums h
  have h0 := fun i => (pck_all h i).1
  have := pck_mk (y := { x with sp := msp x }) h rfl rfl rfl rfl rfl h0 hN.l.1 hN.h (msp_rng h) hN.pe hN.th
  exact ⟨this.1, rfl, this.2⟩
/-- in range, a pool is not refused for its arguments -/
theorem pchk_in {x : Pl} {cpu : Int} (h : pck x = true) (hc : 0 ≤ cpu ∧ cpu < x.c.length) : pchk x cpu = 0 := by
  unfold pchk
  rw [if_neg (by simp [h]), if_neg (by rw [Bool.not_eq_false, wi_iff]; omega)]
theorem lim_zero {x : Pl} (h : pck x = true) (hx : lim x = false) (i : Nat) : x.l = 0 ∧ x.c.getD i 0 = 0 ∧ hld x = 0 ∧ mst x = 0 := by
  have hm : mst x = 0 := by simp [mst, hx]
  have h1 := pck_all h i
  have h2 := (nums h).l
  have h3 := (nums h).h
  have h4 := hld_ge h
  omega
theorem pspend_ok {x : Pl} {cpu : Int} (h : pck x = true) (hc : 0 ≤ cpu ∧ cpu < x.c.length) :
    pck (pspend x cpu).1 = true ∧ mst (pspend x cpu).1 = mst x ∧ (((pspend x cpu).2 = 0 ∧ hld (pspend x cpu).1 = hld x - (if lim x = true then 1 else 0) ∧ (pspend x cpu).1.sp = msp x ∧ (lim x = false ∨ x.l + x.c.getD cpu.toNat 0 ≠ 0)) ∨ ((pspend x cpu).2 = 11 ∧ hld (pspend x cpu).1 = hld x ∧ lim x = true ∧ x.l + x.c.getD cpu.toNat 0 = 0 ∧ (pspend x cpu).1 = pemp x)) := by
  have h0 := pchk_in h hc
  have h3 := pck_all h cpu.toNat
  unfold pspend
  rw [if_neg (by simp [h0])]
  cases hx : lim x with
  | false =>
    have := psp_ok h
    rw [if_pos rfl]
    exact ⟨this.1, this.2.2, .inl ⟨rfl, by rw [this.2.1]; simp, rfl, .inl rfl⟩⟩
  | true =>
    rw [if_neg (by simp)]
    split
    · rename_i hr
      have := pemp_ok h
      exact ⟨this.1, this.2.2, .inr ⟨rfl, this.2.1, rfl, hr, rfl⟩⟩
    · rename_i hr
      split
      · rename_i hz
        have ht := ptk_ok h hc
        have hl := (nums h).l
        have hs := (nums h).s
        have hmn : 1 ≤ mn x.s x.l := by unfold mn; split <;> omega
        have hg : (ptk x cpu).c.getD cpu.toNat 0 = x.c.getD cpu.toNat 0 + mn x.s x.l := getD_set_self (by omega)
        have hlen : (ptk x cpu).c.length = x.c.length := by simp [ptk, pmv]
        have := pdec_ok ht.1 (by rw [hlen]; exact hc) (by rw [hg]; omega)
        exact ⟨this.1, by rw [this.2.2, ht.2.2], .inl ⟨rfl, by rw [this.2.1, ht.2.1]; simp, rfl, .inr hr⟩⟩
      · have := pdec_ok h hc (by omega)
        exact ⟨this.1, this.2.2, .inl ⟨rfl, by rw [this.2.1]; simp, rfl, .inr hr⟩⟩
end Go.Proofs.Ytlaplcjenndigaa
