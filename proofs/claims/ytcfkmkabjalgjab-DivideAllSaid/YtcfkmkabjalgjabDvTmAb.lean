/- Contracts of functions, told of values, on the way to DivideAll. -/
import Derived.Test.YtcfkmkabjalgjabTyAb
import Derived.Test.YtcfkmkabjalgjabDvTAb
namespace Go.Proofs.Ytcfkmkabjalgjab
set_option linter.unusedVariables false
set_option linter.unusedSimpArgs false
open Go.Proofs.Ytcfkmkabjalgjab.Sh
def sf (f : Nat → Int) (m : Nat) : Nat → Int
  | 0 => 0
  | k + 1 => f m + sf f (m + 1) k
theorem sf_congr {f g : Nat → Int} : ∀ (k m : Nat), (∀ j, m ≤ j → f j = g j) → sf f m k = sf g m k
  | 0, _, _ => rfl
  | k + 1, m, h => by rw [sf, sf, h m (Nat.le_refl _), sf_congr k (m + 1) fun j hj => h j (by omega)]
theorem sf_sm (f : Nat → Int) : ∀ (k m : Nat), sm f m + sf f m k = sm f (m + k)
  | 0, m => by simp [sf]
  | k + 1, m => by
    have h := sf_sm f k (m + 1)
    have e : m + (k + 1) = m + 1 + k := by omega
    rw [e, ← h, sf, sm]; omega
/-- what the children of a member have -/
def ch (ps w : List Int) (i : Nat) (j : Nat) : Int := if ps.getD j 0 = (i : Int) then w.getD j 0 else 0
theorem ch_set {ps w : List Int} {i q j : Nat} {v : Int} (h : j ≠ q) : ch ps (w.set q v) i j = ch ps w i j := by
  unfold ch
  have : (w.set q v).getD j 0 = w.getD j 0 := by simp [List.getD_eq_getElem?_getD, List.getElem?_set, Ne.symm h]
  rw [this]
structure RInv (ps ds : List Int) (n m : Nat) (s : List Int × List Bool) : Prop where
  lw : s.1.length = n
  lf : s.2.length = n
  low : ∀ i, i < m → s.1.getD i 0 ≤ sf (ch ps s.1 i) m (n - m)
  up : ∀ i, m ≤ i → i < n → s.2.getD i false = true → s.1.getD i 0 ≤ sf (ch ps s.1 i) m (n - m)
  leaf : ∀ i, m ≤ i → i < n → s.2.getD i false = false → s.1.getD i 0 = ds.getD i 0
  mark : ∀ i, i < n → s.2.getD i false = true → ∃ j, m ≤ j ∧ j < n ∧ ps.getD j 0 = (i : Int)
  unm : ∀ i j, i < n → m ≤ j → j < n → ps.getD j 0 = (i : Int) → s.2.getD i false = true
theorem getD_setI (xs : List Int) (b i : Nat) (v : Int) (hb : b < xs.length) : (xs.set b v).getD i 0 = if i = b then v else xs.getD i 0 := getD_set xs b i v hb
theorem getD_setB (xs : List Bool) (b i : Nat) (v : Bool) (hb : b < xs.length) : (xs.set b v).getD i false = if i = b then v else xs.getD i false := by
  simp only [List.getD_eq_getElem?_getD, List.getElem?_set]
  by_cases e : b = i
  · subst e; simp [hb]
  · rw [if_neg e, if_neg (fun h => e h.symm)]
theorem mn_le (x : Int) : mn x ≤ x := by unfold mn; split <;> omega
theorem riseS_is {ps ds : List Int} {n m : Nat} {w : List Int} {f : List Bool} (hpm : -1 ≤ ps.getD m 0 ∧ ps.getD m 0 < (m : Int)) (hm : m < n) (lw : w.length = n) (lf : f.length = n) :
    ∃ w2 f2, riseS ps ds m (w, f) = (w2, f2) ∧ w2.length = n ∧ f2.length = n ∧ (∀ i, i ≠ m → ps.getD m 0 ≠ (i : Int) → w2.getD i 0 = w.getD i 0) ∧ (w2.getD m 0 = if f.getD m false = true then w.getD m 0 else ds.getD m 0) ∧
      (∀ q : Nat, ps.getD m 0 = (q : Int) → w2.getD q 0 ≤ w.getD q 0 + (if f.getD m false = true then w.getD m 0 else ds.getD m 0)) ∧ (∀ i, i < n → f2.getD i false = if ps.getD m 0 = (i : Int) then true else f.getD i false) := by
  obtain ⟨w1, hw1⟩ : ∃ w1 : List Int, w1 = (if f.getD m false = true then w else w.set m (ds.getD m 0)) := ⟨_, rfl⟩
  have l1 : w1.length = n := by rw [hw1]; split <;> simp [lw]
  have g1 : ∀ i, i ≠ m → w1.getD i 0 = w.getD i 0 := fun i hi => by
    rw [hw1]; split
    · rfl
    · rw [getD_setI _ _ _ _ (by omega), if_neg hi]
  have gm : w1.getD m 0 = if f.getD m false = true then w.getD m 0 else ds.getD m 0 := by
    rw [hw1]; split
    · rfl
    · rw [getD_setI _ _ _ _ (by omega), if_pos rfl]
  by_cases h0 : 0 ≤ ps.getD m 0
  · obtain ⟨q, hq⟩ : ∃ q : Nat, ps.getD m 0 = (q : Int) := ⟨(ps.getD m 0).toNat, by omega⟩
    refine ⟨w1.set q (mn (w1.getD q 0 + w1.getD m 0)), f.set q true, ?_, by simp [l1], by simp [lf], fun i hi hpi => ?_, ?_, fun q' hq' => ?_, fun i hi => ?_⟩
    · unfold riseS
      simp only
      rw [← hw1, if_pos h0, hq, Int.toNat_natCast]
    · rw [getD_setI _ _ _ _ (by omega), if_neg (by rw [hq] at hpi; omega), g1 i hi]
    · rw [getD_setI _ _ _ _ (by omega), if_neg (by omega), gm]
    · have e : q' = q := by omega
      subst e
      rw [getD_setI _ _ _ _ (by omega), if_pos rfl, ← gm, ← g1 q' (by omega)]
      exact mn_le _
    · rw [getD_setB _ _ _ _ (by omega), hq]
      by_cases e : i = q
      · rw [if_pos e, if_pos (by omega)]
      · rw [if_neg e, if_neg (by omega)]
  · refine ⟨w1, f, ?_, l1, lf, fun i hi _ => g1 i hi, gm, fun q' hq' => by omega, fun i hi => by rw [if_neg (by omega)]⟩
    unfold riseS
    simp only
    rw [← hw1, if_neg h0]
theorem rinv_step {ps ds : List Int} {n m : Nat} {s : List Int × List Bool} (hp : par ps n) (hm : m < n) (h : RInv ps ds n (m + 1) s) : RInv ps ds n m (riseS ps ds m s) := by
  obtain ⟨w, f⟩ := s
  obtain ⟨lw, lf, low, up, leaf, mark, unm⟩ := h
  simp only at lw lf low up leaf mark unm
  have hpm := hp m hm
  obtain ⟨w2, f2, he, l2, k2, a, b, c, d⟩ := riseS_is (ds := ds) hpm hm lw lf
  rw [he]
  have hS : ∀ i, sf (ch ps w2 i) (m + 1) (n - (m + 1)) = sf (ch ps w i) (m + 1) (n - (m + 1)) := fun i => sf_congr _ _ fun j hj => by
    unfold ch; rw [a j (by omega) (by omega)]
  have hT : ∀ i, sf (ch ps w2 i) m (n - m) = (if ps.getD m 0 = (i : Int) then w2.getD m 0 else 0) + sf (ch ps w i) (m + 1) (n - (m + 1)) := fun i => by
    rw [show n - m = (n - (m + 1)) + 1 by omega, sf, hS]; rfl
  refine ⟨l2, k2, fun i hi => ?_, fun i hi hin hf => ?_, fun i hi hin hf => ?_, fun i hi hf => ?_, fun i j hi hj hjn hpj => ?_⟩
  · rw [hT]
    by_cases e : ps.getD m 0 = (i : Int)
    · rw [if_pos e, b]
      have h1 := c i e
      have h2 := low i (by omega)
      simp only at h1 h2 ⊢
      omega
    · rw [if_neg e]
      have h1 := a i (by omega) e
      have h2 := low i (by omega)
      simp only at h1 h2 ⊢
      omega
  · rw [hT, if_neg (by omega)]
    simp only at hf ⊢
    rw [d i hin, if_neg (by omega)] at hf
    by_cases e : i = m
    · subst e
      rw [b, if_pos hf]
      have := low i (by omega)
      omega
    · rw [a i e (by omega)]
      have := up i (by omega) hin hf
      omega
  · simp only at hf ⊢
    rw [d i hin, if_neg (by omega)] at hf
    by_cases e : i = m
    · subst e
      rw [b, if_neg (by rw [hf]; decide)]
    · rw [a i e (by omega)]
      exact leaf i (by omega) hin hf
  · simp only at hf
    rw [d i hi] at hf
    by_cases e : ps.getD m 0 = (i : Int)
    · exact ⟨m, Nat.le_refl _, hm, e⟩
    · rw [if_neg e] at hf
      obtain ⟨j, h1, h2, h3⟩ := mark i hi hf
      exact ⟨j, by omega, h2, h3⟩
  · simp only
    rw [d i hi]
    by_cases e : ps.getD m 0 = (i : Int)
    · rw [if_pos e]
    · rw [if_neg e]
      by_cases ej : j = m
      · subst ej; exact absurd hpj e
      · exact unm i j hi (by omega) hjn hpj
theorem rinv_all {ps ds : List Int} {n : Nat} (hp : par ps n) : ∀ (m : Nat) (s : List Int × List Bool), m ≤ n → RInv ps ds n m s → RInv ps ds n 0 (riseL ps ds m s)
  | 0, _, _, h => h
  | m + 1, s, hm, h => rinv_all hp m _ (by omega) (rinv_step hp (by omega) h)
/-- the demands that a tree's members hand on -/
theorem rise_ok {ps ds : List Int} (hp : par ps ds.length) :
    (∀ i, i < ds.length → (∃ j, j < ds.length ∧ ps.getD j 0 = (i : Int)) → (riseW ps ds).getD i 0 ≤ sm (ch ps (riseW ps ds) i) ds.length) ∧
    (∀ i, i < ds.length → (¬ ∃ j, j < ds.length ∧ ps.getD j 0 = (i : Int)) → (riseW ps ds).getD i 0 = ds.getD i 0) := by
  have h0 : RInv ps ds ds.length ds.length (List.replicate ds.length 0, List.replicate ds.length false) := by
    have z : ∀ i, (List.replicate ds.length (0 : Int)).getD i 0 = 0 := fun i => by
      simp only [List.getD_eq_getElem?_getD, List.getElem?_replicate]; split <;> rfl
    have zb : ∀ i, (List.replicate ds.length false).getD i false = false := fun i => by
      simp only [List.getD_eq_getElem?_getD, List.getElem?_replicate]; split <;> rfl
    refine ⟨by simp, by simp, fun i hi => ?_, fun i h1 h2 => by omega, fun i h1 h2 => by omega, fun i hi hf => ?_, fun i j _ h1 h2 _ => by omega⟩
    · simp only; rw [z, Nat.sub_self]; exact Int.le_refl _
    · simp only at hf; rw [zb] at hf; cases hf
  have h := rinv_all hp ds.length _ (Nat.le_refl _) h0
  have hs : ∀ f : Nat → Int, sf f 0 ds.length = sm f ds.length := fun f => by
    have := sf_sm f ds.length 0
    simp only [sm, Nat.zero_add] at this
    omega
  have e : (riseL ps ds ds.length (List.replicate ds.length 0, List.replicate ds.length false)).1 = riseW ps ds := rfl
  refine ⟨fun i hi hc => ?_, fun i hi hc => ?_⟩
  · obtain ⟨j, hj, hpj⟩ := hc
    have hf := h.unm i j hi (Nat.zero_le _) hj hpj
    have := h.up i (Nat.zero_le _) hi hf
    rw [e, Nat.sub_zero, hs] at this
    exact this
  · cases hf : (riseL ps ds ds.length (List.replicate ds.length 0, List.replicate ds.length false)).2.getD i false with
    | true =>
      obtain ⟨j, _, h2, h3⟩ := h.mark i hi hf
      exact absurd ⟨j, h2, h3⟩ hc
    | false =>
      have := h.leaf i (Nat.zero_le _) hi hf
      rw [e] at this; exact this
/-! ### the units -/
theorem kids_mem (ps : List Int) (p : Int) : ∀ j i, i ∈ kids ps p j ↔ i < j ∧ ps.getD i 0 = p
  | 0, i => by simp [kids]
  | j + 1, i => by
    unfold kids
    split
    · rename_i e
      rw [List.mem_append, kids_mem ps p j i, List.mem_singleton]
      constructor
      · rintro (⟨h1, h2⟩ | rfl)
        · exact ⟨by omega, h2⟩
        · exact ⟨by omega, e⟩
      · rintro ⟨h1, h2⟩
        by_cases h : i = j
        · exact .inr h
        · exact .inl ⟨by omega, h2⟩
    · rename_i e
      rw [kids_mem ps p j i]
      constructor
      · rintro ⟨h1, h2⟩; exact ⟨by omega, h2⟩
      · rintro ⟨h1, h2⟩
        refine ⟨?_, h2⟩
        rcases Nat.lt_or_ge i j with h | h
        · exact h
        · have : i = j := by omega
          subst this; exact absurd h2 e
theorem kids_nodup (ps : List Int) (p : Int) : ∀ j, (kids ps p j).Nodup
  | 0 => List.nodup_nil
  | j + 1 => by
    unfold kids
    split
    · rw [List.nodup_append]
      refine ⟨kids_nodup ps p j, by simp, fun a ha b hb => ?_⟩
      simp at hb; subst hb
      have := (kids_lt ps p _ a ha).1
      omega
    · exact kids_nodup ps p j
/-- a sum over the children -/
theorem kV_sum (ps xs : List Int) (i : Nat) : ∀ j, (kV xs (kids ps (i : Int) j)).sum = sm (ch ps xs i) j
  | 0 => rfl
  | j + 1 => by
    unfold kids
    simp only [sm]
    rw [← kV_sum ps xs i j]
    unfold ch
    split
    · simp [kV, List.sum_append]
    · simp
theorem sm_sum (xs : List Int) : ∀ n, n ≤ xs.length → sm (fun i => xs.getD i 0) n = (xs.take n).sum
  | 0, _ => by simp [sm]
  | n + 1, h => by
    rw [List.take_add_one, List.sum_append, ← sm_sum xs n (by omega)]
    simp only [sm]
    congr 1
    rw [List.getD_eq_getElem?_getD, List.getElem?_eq_getElem (by omega)]
    simp
theorem sm_len (xs : List Int) : sm (fun i => xs.getD i 0) xs.length = xs.sum := by
  rw [sm_sum xs _ (Nat.le_refl _), List.take_length]
theorem putN_out {ks : List Nat} {xs hv : List Int} {i : Nat} : ∀ j, j ≤ ks.length → (i ∉ ks) → (putN ks xs hv j).getD i 0 = hv.getD i 0
  | 0, _, _ => rfl
  | j + 1, hj, h => by
    rw [putN]
    have hne : i ≠ ks.getD j 0 := fun e => h (by rw [e, List.getD_eq_getElem?_getD, List.getElem?_eq_getElem (by omega)]; exact List.getElem_mem _)
    have : ((putN ks xs hv j).set (ks.getD j 0) (xs.getD j 0)).getD i 0 = (putN ks xs hv j).getD i 0 := by
      simp only [List.getD_eq_getElem?_getD, List.getElem?_set] at hne ⊢
      rw [if_neg (Ne.symm hne)]
    rw [this, putN_out j (by omega) h]
theorem putN_in {ks : List Nat} {xs hv : List Int} (hn : ks.Nodup) (hl : ∀ k ∈ ks, k < hv.length) : ∀ j, j ≤ ks.length → ∀ a, a < j → (putN ks xs hv j).getD (ks.getD a 0) 0 = xs.getD a 0
  | 0, _, a, h => by omega
  | j + 1, hj, a, ha => by
    have hja : ks.getD j 0 < hv.length := hl _ (by rw [List.getD_eq_getElem?_getD, List.getElem?_eq_getElem (by omega)]; exact List.getElem_mem _)
    rw [putN, getD_setI _ _ _ _ (by rw [putN_len]; exact hja)]
    by_cases e : a = j
    · subst e; rw [if_pos rfl]
    · have hne : ks.getD a 0 ≠ ks.getD j 0 := by
        intro h
        have h1 : a < ks.length := by omega
        have h2 : j < ks.length := by omega
        simp only [List.getD_eq_getElem?_getD, List.getElem?_eq_getElem h1, List.getElem?_eq_getElem h2, Option.getD_some] at h
        exact e ((List.getElem_inj hn).1 h)
      rw [if_neg hne, putN_in hn hl j (by omega) a (by omega)]
theorem ext_getD {a b : List Int} (h : a.length = b.length) (h2 : ∀ i, i < a.length → a.getD i 0 = b.getD i 0) : a = b := by
  apply List.ext_getElem h
  intro i h1 h3
  have := h2 i h1
  simpa [List.getD_eq_getElem?_getD, h1, h3] using this
theorem kV_getD (xs : List Int) (ks : List Nat) (a : Nat) (h : a < ks.length) : (kV xs ks).getD a 0 = xs.getD (ks.getD a 0) 0 := by
  simp [kV, List.getD_eq_getElem?_getD, h]
theorem passD_len (ps ws wt : List Int) (p u : Int) : (passD ps ws wt p u).length = (kids ps p ps.length).length := by
  unfold passD; rw [divN_length]; simp [kV]
theorem passF_kids {ps ws wt hv : List Int} {p u : Int} (hl : hv.length = ps.length) : kV (passF ps ws wt p u hv) (kids ps p ps.length) = passD ps ws wt p u := by
  refine ext_getD (by rw [passD_len]; simp [kV]) fun a ha => ?_
  have ha' : a < (kids ps p ps.length).length := by simpa [kV] using ha
  rw [kV_getD _ _ _ ha']
  exact putN_in (kids_nodup ps p ps.length) (fun k hk => by rw [hl]; exact (kids_lt ps p _ k hk).1) _ (Nat.le_refl _) a ha'
theorem passF_out {ps ws wt hv : List Int} {p u : Int} {i : Nat} (h : ps.getD i 0 ≠ p) : (passF ps ws wt p u hv).getD i 0 = hv.getD i 0 :=
  putN_out _ (Nat.le_refl _) fun hm => h (kids_lt ps p _ i hm).2
theorem kV_congr {xs ys : List Int} {ks : List Nat} (h : ∀ k ∈ ks, xs.getD k 0 = ys.getD k 0) : kV xs ks = kV ys ks := by
  unfold kV; exact List.map_congr_left h
/-- what is given stays -/
theorem treeN_stay {ps ws wt : List Int} {u : Int} {i : Nat} : ∀ (d m : Nat), ps.getD i 0 < (m : Int) → (treeN ps ws wt u (m + d)).getD i 0 = (treeN ps ws wt u m).getD i 0
  | 0, m, _ => rfl
  | d + 1, m, h => by
    rw [show m + (d + 1) = (m + d) + 1 by omega, treeN, passF_out (by omega), treeN_stay d m h]
theorem treeN_top (ps ws wt : List Int) (u : Int) (n : Nat) : kV (treeN ps ws wt u n) (kids ps (-1) ps.length) = passD ps ws wt (-1) u := by
  have : kV (treeN ps ws wt u n) (kids ps (-1) ps.length) = kV (treeN ps ws wt u 0) (kids ps (-1) ps.length) := kV_congr fun k hk => by
    have := treeN_stay (ps := ps) (ws := ws) (wt := wt) (u := u) (i := k) n 0 (by rw [(kids_lt ps (-1) _ k hk).2]; decide)
    rw [Nat.zero_add] at this; exact this
  rw [this, treeN, passF_kids (by simp)]
theorem treeN_kids {ps ws wt : List Int} {u : Int} {n p : Nat} (hp : ps.getD p 0 < (p : Int)) (hn : p < n) : kV (treeN ps ws wt u n) (kids ps (p : Int) ps.length) = passD ps ws wt (p : Int) ((treeN ps ws wt u n).getD p 0) := by
  have e1 : kV (treeN ps ws wt u n) (kids ps (p : Int) ps.length) = kV (treeN ps ws wt u (p + 1)) (kids ps (p : Int) ps.length) := kV_congr fun k hk => by
    have := treeN_stay (ps := ps) (ws := ws) (wt := wt) (u := u) (i := k) (n - (p + 1)) (p + 1) (by rw [(kids_lt ps p _ k hk).2]; omega)
    rw [show p + 1 + (n - (p + 1)) = n by omega] at this; exact this
  have e2 : (treeN ps ws wt u n).getD p 0 = (treeN ps ws wt u p).getD p 0 := by
    have := treeN_stay (ps := ps) (ws := ws) (wt := wt) (u := u) (i := p) (n - p) p hp
    rw [show p + (n - p) = n by omega] at this; exact this
  rw [e1, e2, treeN, passF_kids (treeN_len ps ws wt u p)]
/-- the units that a pass gives out -/
theorem pass_sum {ps ws wt : List Int} {p u : Int} (hu : 0 ≤ u ∧ u ≤ 65536) (hn : ps.length ≤ 64) (hw : ∀ i, i < ps.length → 1 ≤ ws.getD i 0 ∧ ws.getD i 0 ≤ 10000) (hr : rng wt) :
    (passD ps ws wt p u).sum = min u (kV wt (kids ps p ps.length)).sum ∧ ∀ a, a < (kids ps p ps.length).length → (passD ps ws wt p u).getD a 0 ≤ (kV wt (kids ps p ps.length)).getD a 0 := by
  have hv := valid_iff (pass_valid (p := p) hu hn hw hr)
  have hf := fair_divN hv.2.2.1 hv.2.2.2 u.toNat
  have ht := hf.total
  have l1 : (kV ws (kids ps p ps.length)).length = (kids ps p ps.length).length := by simp [kV]
  have l2 : (kV wt (kids ps p ps.length)).length = (kids ps p ps.length).length := by simp [kV]
  refine ⟨?_, fun a ha => hf.hi a (by rw [l1]; exact ha)⟩
  have s1 := sm_len (passD ps ws wt p u)
  have s2 := sm_len (kV wt (kids ps p ps.length))
  rw [passD_len] at s1
  rw [l2] at s2
  rw [l1] at ht
  unfold passD at s1 ⊢
  rw [s1, s2, show ((u.toNat : Nat) : Int) = u by omega] at ht
  exact ht
def chI (ps w : List Int) (p : Int) (j : Nat) : Int := if ps.getD j 0 = p then w.getD j 0 else 0
theorem kV_sumI (ps xs : List Int) (p : Int) : ∀ j, (kV xs (kids ps p j)).sum = sm (chI ps xs p) j
  | 0 => rfl
  | j + 1 => by
    unfold kids
    simp only [sm]
    rw [← kV_sumI ps xs p j]
    unfold chI
    split
    · simp [kV, List.sum_append]
    · simp
theorem mem_idx {ks : List Nat} {i : Nat} (h : i ∈ ks) : ∃ a, a < ks.length ∧ ks.getD a 0 = i := by
  obtain ⟨a, ha, rfl⟩ := List.getElem_of_mem h
  exact ⟨a, ha, by simp [List.getD_eq_getElem?_getD, ha]⟩
/-- what DivideTrees asks -/
theorem trees_ok {ps ws ds : List Int} {u : Int} (hv : valid u ws ds = true) (hl : ps.length = ws.length) (hp : par ps ps.length) :
    (∀ i, i < ps.length → (∃ j, j < ps.length ∧ ps.getD j 0 = (i : Int)) → sm (chI ps (treeV ps ws ds u) i) ps.length = (treeV ps ws ds u).getD i 0) ∧
    (∀ i, i < ps.length → (¬ ∃ j, j < ps.length ∧ ps.getD j 0 = (i : Int)) → (treeV ps ws ds u).getD i 0 ≤ ds.getD i 0) ∧
    sm (chI ps (treeV ps ws ds u) (-1)) ps.length ≤ u ∧ rng (treeV ps ws ds u) ∧ (treeV ps ws ds u).length = ps.length := by
  have hV := valid_iff hv
  have hu : 0 ≤ u ∧ u ≤ 65536 := by have := hV.1; simpa only [isU, Bool.and_eq_true, decide_eq_true_eq] using this
  have hw : ∀ i, i < ps.length → 1 ≤ ws.getD i 0 ∧ ws.getD i 0 ≤ 10000 := fun i hi => by
    have := (hV.2.2.2 i (by omega)).1; simpa only [isW, Bool.and_eq_true, decide_eq_true_eq] using this
  have hr : rng ds := rng_of fun i hi => by
    have := (hV.2.2.2 i (by omega)).2; simpa only [isU, Bool.and_eq_true, decide_eq_true_eq] using this
  have hn : ps.length ≤ 64 := by omega
  have hld : ds.length = ps.length := by omega
  obtain ⟨r1, r2⟩ := rise_ok (ps := ps) (ds := ds) (by rw [hld]; exact hp)
  rw [hld] at r1 r2
  have hWr := riseW_rng (ps := ps) hr
  have htr := treeN_rng hu hn hw hWr ps.length
  have htl := treeN_len ps ws (riseW ps ds) u ps.length
  have htop := treeN_top ps ws (riseW ps ds) u ps.length
  have htk := fun (p : Nat) (h : p < ps.length) => treeN_kids (ps := ps) (ws := ws) (wt := riseW ps ds) (u := u) (n := ps.length) (p := p) (hp p h).2 h
  have e : treeV ps ws ds u = treeN ps ws (riseW ps ds) u ps.length := rfl
  rw [e]
  generalize riseW ps ds = wt at *
  generalize treeN ps ws wt u ps.length = X at *
  have hle : ∀ i, i < ps.length → X.getD i 0 ≤ wt.getD i 0 := by
    intro i hi
    have hpi := hp i hi
    have key : ∀ (p : Int) (v : Int), 0 ≤ v ∧ v ≤ 65536 → ps.getD i 0 = p → kV X (kids ps p ps.length) = passD ps ws wt p v → X.getD i 0 ≤ wt.getD i 0 := by
      intro p v hv hpe hk
      obtain ⟨a, ha, hai⟩ := mem_idx ((kids_mem ps p ps.length i).2 ⟨hi, hpe⟩)
      have h1 := (pass_sum (p := p) hv hn hw hWr).2 a ha
      rw [← hk, kV_getD _ _ _ ha, kV_getD _ _ _ ha, hai] at h1
      exact h1
    by_cases h0 : ps.getD i 0 = -1
    · exact key (-1) u hu h0 htop
    · obtain ⟨p, hpp⟩ : ∃ p : Nat, ps.getD i 0 = (p : Int) := ⟨(ps.getD i 0).toNat, by omega⟩
      exact key p _ (htr p) hpp (htk p (by omega))
  refine ⟨fun i hi hc => ?_, fun i hi hc => ?_, ?_, htr, htl⟩
  · have h1 := (pass_sum (p := (i : Int)) (htr i) hn hw hWr).1
    rw [← htk i hi, kV_sumI, kV_sumI] at h1
    have h2 := hle i hi
    have h3 := r1 i hi hc
    have e2 : sm (ch ps wt i) ps.length = sm (chI ps wt i) ps.length := rfl
    rw [e2] at h3
    omega
  · rw [← r2 i hi hc]; exact hle i hi
  · have h1 := (pass_sum (p := -1) hu hn hw hWr).1
    rw [← htop, kV_sumI] at h1
    omega
end Go.Proofs.Ytcfkmkabjalgjab
