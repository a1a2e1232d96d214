/- Contracts of functions, told of values, on the way to VirtualShares. -/
import Derived.Test.YtabanfgnnelfcaaTyCa
import Derived.Test.YtabanfgnnelfcaaVteCa
namespace Go.Proofs.Ytabanfgnnelfcaa
set_option linter.unusedVariables false
set_option linter.unusedSimpArgs false
open Go.Proofs.Ytabanfgnnelfcaa.Sh
def iAll (c : Int) (l : List It) : Prop := ∀ i, i < l.length → iOk c (l.getD i zi) = true
theorem iOk_all {c : Int} {x : It} : iOk c x = true ↔ x.i ≠ 0 ∧ wok x.w = true ∧ 0 ≤ x.v ∧ x.v ≤ c + cst x.w ∧ x.v ≤ 1152921504606846976 ∧ (x.a = true → c ≤ x.v) :=
  ⟨iOk_iff, fun ⟨h1, h2, h3, h4, h5, h6⟩ => iOk_mk h1 (by have := cst_pos h2; omega) h3 h4 h5 h6⟩
theorem qck_mk {c : Int} {l : List It} (hc : 0 ≤ c ∧ c ≤ 1152921504606846976) (hl : l.length ≤ 192) (hs : srt l) (hi : iAll c l) : qck c l = true := by
  rw [qck_yes ⟨hc.1, hc.2, hl⟩, List.all_eq_true]
  intro i hm
  have hi' := List.mem_range.1 hm
  unfold qp
  rw [hi i hi', Bool.and_true]
  by_cases h0 : (0 : Int) < (i : Int)
  · have := hs (i - 1) i (by omega) hi'
    rw [decide_eq_false (show ¬ (l.getD i zi).i ≤ (l.getD (i - 1) zi).i by omega), Bool.and_false]; rfl
  · rw [decide_eq_false h0]; rfl
theorem qck_all {c : Int} {l : List It} (h : qck c l = true) : iAll c l := fun _ hi => qck_ok h hi
theorem lsV_pre (l : List It) : ∀ k, k ≤ l.length →
    (((l.take k).foldl lsS (0, false)).2 = true → (∃ i, i < k ∧ (l.getD i zi).a = true ∧ (l.getD i zi).v = ((l.take k).foldl lsS (0, false)).1) ∧ ∀ i, i < k → (l.getD i zi).a = true → ((l.take k).foldl lsS (0, false)).1 ≤ (l.getD i zi).v) ∧
    (((l.take k).foldl lsS (0, false)).2 = false → ∀ i, i < k → (l.getD i zi).a = false) := by
  intro k
  induction k with
  | zero => intro _; exact ⟨(fun h => by cases h), fun _ i hi => by omega⟩
  | succ k ih =>
    intro hk
    obtain ⟨a1, a2⟩ := ih (by omega)
    rw [fold_take lsS (0, false) l k (by omega)]
    generalize (l.take k).foldl lsS (0, false) = s at *
    obtain ⟨v, f⟩ := s
    simp only at a1 a2
    unfold lsS
    cases hc : ((l.getD k zi).a && (!f || decide ((l.getD k zi).v < v))) with
    | true =>
      simp only [if_true]
      rw [Bool.and_eq_true] at hc
      refine ⟨fun _ => ⟨⟨k, by omega, hc.1, rfl⟩, fun i hi ha => ?_⟩, fun h => by cases h⟩
      rcases Nat.lt_or_ge i k with h | h
      · cases f with
        | false => rw [a2 rfl i h] at ha; cases ha
        | true =>
          have h1 := (a1 rfl).2 i h ha
          have h2 := hc.2
          simp only [Bool.not_true, Bool.false_or, decide_eq_true_eq] at h2
          omega
      · have : i = k := by omega
        subst this; omega
    | false =>
      simp only [Bool.false_eq_true, if_false]
      refine ⟨fun hf => ?_, fun hf i hi => ?_⟩
      · subst hf
        obtain ⟨⟨j, b1, b2, b3⟩, b4⟩ := a1 rfl
        refine ⟨⟨j, by omega, b2, b3⟩, fun i hi ha => ?_⟩
        rcases Nat.lt_or_ge i k with h | h
        · exact b4 i h ha
        · have : i = k := by omega
          subst this
          rw [ha] at hc
          simp only [Bool.true_and, Bool.not_true, Bool.false_or, decide_eq_false_iff_not] at hc
          omega
      · subst hf
        rcases Nat.lt_or_ge i k with h | h
        · exact a2 rfl i h
        · have : i = k := by omega
          subst this
          simpa using hc
theorem lsV_ok (l : List It) : ((lsV l).2 = true → (∃ i, i < l.length ∧ (l.getD i zi).a = true ∧ (l.getD i zi).v = (lsV l).1) ∧ ∀ i, i < l.length → (l.getD i zi).a = true → (lsV l).1 ≤ (l.getD i zi).v) ∧
    ((lsV l).2 = false → ∀ i, i < l.length → (l.getD i zi).a = false) := by
  have := lsV_pre l l.length (Nat.le_refl _)
  rw [List.take_length] at this
  exact this
theorem stC_ok {c : Int} {l : List It} (hc : 0 ≤ c ∧ c ≤ 1152921504606846976) (hl : l.length ≤ 192) (hs : srt l) (hi : iAll c l) : qck (stC c l) l = true ∧ c ≤ stC c l := by
  obtain ⟨h1, h2⟩ := lsV_ok l
  unfold stC
  cases hf : (lsV l).2 with
  | false =>
    rw [if_neg Bool.false_ne_true]
    exact ⟨qck_mk hc hl hs hi, Int.le_refl _⟩
  | true =>
    rw [if_pos rfl]
    obtain ⟨⟨j, b1, b2, b3⟩, b4⟩ := h1 hf
    by_cases hlt : c < (lsV l).1
    · rw [if_pos hlt]
      have hj := iOk_all.1 (hi j b1)
      refine ⟨qck_mk ⟨by omega, by omega⟩ hl hs (fun i hil => ?_), by omega⟩
      obtain ⟨g1, g2, g3, g4, g5, g6⟩ := iOk_all.1 (hi i hil)
      exact iOk_all.2 ⟨g1, g2, g3, by omega, g5, fun ha => b4 i hil ha⟩
    · rw [if_neg hlt]
      exact ⟨qck_mk hc hl hs hi, Int.le_refl _⟩
theorem srt_set {l : List It} (hs : srt l) {k : Nat} (hk : k < l.length) {x : It} (hx : x.i = (l.getD k zi).i) : srt (l.set k x) := by
  have key : ∀ j, j < l.length → ((l.set k x).getD j zi).i = (l.getD j zi).i := by
    intro j hj
    by_cases e : k = j
    · subst e; rw [getD_set l k x hk]; exact hx
    · rw [getD_set_ne l k j x e]
  intro i j hij hj
  rw [List.length_set] at hj
  rw [key i (by omega), key j hj]
  exact hs i j hij hj
theorem iAll_set {c : Int} {l : List It} (hi : iAll c l) {k : Nat} (hk : k < l.length) {x : It} (hx : iOk c x = true) : iAll c (l.set k x) := by
  intro j hj
  rw [List.length_set] at hj
  by_cases e : k = j
  · subst e; rw [getD_set l k x hk]; exact hx
  · rw [getD_set_ne l k j x e]; exact hi j hj
def Kp (c : Int) (r : (Int × List It) × Int) : Prop := r.2 = 0 → qck r.1.1 r.1.2 = true ∧ c ≤ r.1.1
theorem kp_chg {c : Int} {l : List It} {id : Int} {F : Int × List It} (h : qck c l = true → bsF l id = true → F.1 = 0 → qck (stC c F.2) F.2 = true ∧ c ≤ stC c F.2) : Kp c (chg c l id F) := by
  intro he
  unfold chg at he ⊢
  cases hq : qck c l with
  | false => rw [hq, if_neg Bool.false_ne_true] at he; cases he
  | true =>
    rw [hq, if_pos rfl] at he
    rw [if_pos rfl]
    cases hF : bsF l id with
    | false => rw [hF, if_neg Bool.false_ne_true] at he; cases he
    | true =>
      rw [hF, if_pos rfl] at he
      rw [if_pos rfl]
      by_cases h0 : F.1 = 0
      · rw [if_pos h0]
        exact h hq hF h0
      · rw [if_neg h0] at he
        exact absurd he h0
theorem kp_wake (c : Int) (l : List It) (id : Int) : Kp c (chg c l id (wkF c l (bsV l id))) := by
  refine kp_chg (fun hq hF h0 => ?_)
  obtain ⟨hk, hid⟩ := bsF_lt hF
  have hqi := qck_iff hq
  have hx := iOk_all.1 (qck_ok hq hk)
  unfold wkF at h0 ⊢
  cases ha : (l.getD (bsV l id) zi).a with
  | true => rw [ha, if_pos rfl] at h0; cases h0
  | false =>
    rw [if_neg Bool.false_ne_true]
    have hcr := cst_rng (l.getD (bsV l id) zi).w
    refine stC_ok ⟨hqi.1, hqi.2.1⟩ (by simp only [List.length_set]; exact hqi.2.2.1) (srt_set (qck_srt hq) hk rfl) (iAll_set (qck_all hq) hk ?_)
    obtain ⟨g1, g2, g3, g4, g5, g6⟩ := hx
    refine iOk_all.2 ⟨g1, g2, ?_, ?_, ?_, fun _ => ?_⟩ <;> simp only <;> split <;> omega
theorem stC_eq {c v : Int} {l : List It} (hcv : c ≤ v) (hf : (lsV l).2 = true) (hv : v ≤ (lsV l).1) : stC c l = stC v l := by
  unfold stC
  rw [if_pos hf, if_pos hf]
  split <;> split <;> omega
theorem serve_all {c : Int} {l : List It} (hq : qck c l = true) {k : Nat} (hk : k < l.length) (ha : (l.getD k zi).a = true) (hM : ¬ 1152921504606846976 < (l.getD k zi).v + cst (l.getD k zi).w) :
    iAll (l.getD k zi).v ((l.map (raise (l.getD k zi).v)).set k ⟨(l.getD k zi).i, (l.getD k zi).w, (l.getD k zi).v + cst (l.getD k zi).w, true⟩) := by
  obtain ⟨g1, g2, g3, g4, g5, g6⟩ := iOk_all.1 (qck_ok hq hk)
  have hcv := g6 ha
  have hcr := cst_rng (l.getD k zi).w
  intro j hj
  rw [List.length_set, List.length_map] at hj
  by_cases e : k = j
  · subst e
    rw [getD_set _ _ _ (by rw [List.length_map]; exact hk)]
    exact iOk_all.2 ⟨g1, g2, by simp only; omega, by simp only; omega, by simp only; omega, fun _ => by simp only; omega⟩
  · rw [getD_set_ne _ _ _ _ e, map_at' _ _ _ hj]
    obtain ⟨b1, b2, b3, b4, b5, b6⟩ := iOk_all.1 (qck_ok hq hj)
    have hcj := cst_rng (l.getD j zi).w
    unfold raise
    split
    · refine iOk_all.2 ⟨b1, b2, ?_, ?_, ?_, fun _ => ?_⟩ <;> simp only <;> split <;> omega
    · rename_i hna
      exact iOk_all.2 ⟨b1, b2, b3, by omega, b5, fun h => absurd h hna⟩
theorem kp_serve (c : Int) (l : List It) (id : Int) : Kp c (chg c l id (svF l (bsV l id))) := by
  refine kp_chg (fun hq hF h0 => ?_)
  obtain ⟨hk, hid⟩ := bsF_lt hF
  have hqi := qck_iff hq
  obtain ⟨g1, g2, g3, g4, g5, g6⟩ := iOk_all.1 (qck_ok hq hk)
  unfold svF at h0 ⊢
  cases ha : (l.getD (bsV l id) zi).a with
  | false => rw [ha, if_neg Bool.false_ne_true] at h0; cases h0
  | true =>
    rw [ha, if_pos rfl] at h0
    rw [if_pos rfl]
    by_cases hM : 1152921504606846976 < (l.getD (bsV l id) zi).v + cst (l.getD (bsV l id) zi).w
    · rw [if_pos hM] at h0; cases h0
    rw [if_neg hM]
    simp only
    have hall := serve_all hq hk ha hM
    have hcv := g6 ha
    have hk' : bsV l id < (l.map (raise (l.getD (bsV l id) zi).v)).length := by rw [List.length_map]; exact hk
    have hs := srt_set (srt_raise (qck_srt hq) (l.getD (bsV l id) zi).v) hk' (x := ⟨(l.getD (bsV l id) zi).i, (l.getD (bsV l id) zi).w, (l.getD (bsV l id) zi).v + cst (l.getD (bsV l id) zi).w, true⟩) (by rw [map_at' _ _ _ hk, raise_i])
    have hat := getD_set (l.map (raise (l.getD (bsV l id) zi).v)) (bsV l id) ⟨(l.getD (bsV l id) zi).i, (l.getD (bsV l id) zi).w, (l.getD (bsV l id) zi).v + cst (l.getD (bsV l id) zi).w, true⟩ hk'
    have hlen : ((l.map (raise (l.getD (bsV l id) zi).v)).set (bsV l id) ⟨(l.getD (bsV l id) zi).i, (l.getD (bsV l id) zi).w, (l.getD (bsV l id) zi).v + cst (l.getD (bsV l id) zi).w, true⟩).length = l.length := by rw [List.length_set, List.length_map]
    generalize (l.map (raise (l.getD (bsV l id) zi).v)).set (bsV l id) ⟨(l.getD (bsV l id) zi).i, (l.getD (bsV l id) zi).w, (l.getD (bsV l id) zi).v + cst (l.getD (bsV l id) zi).w, true⟩ = L at *
    have hst := stC_ok ⟨by omega, by omega⟩ (by omega) hs hall
    obtain ⟨h1, h2⟩ := lsV_ok L
    have hf : (lsV L).2 = true := by
      cases hh : (lsV L).2 with
      | true => rfl
      | false =>
        have := h2 hh (bsV l id) (by omega)
        rw [hat] at this; cases this
    obtain ⟨⟨j, b1, b2, b3⟩, b4⟩ := h1 hf
    have hj := (iOk_all.1 (hall j b1)).2.2.2.2.2 b2
    rw [stC_eq hcv hf (by omega)]
    exact ⟨hst.1, by omega⟩
theorem ins_at (l : List It) (k : Nat) (x : It) (hk : k ≤ l.length) (j : Nat) : (ins l k x).getD j zi = if j < k then l.getD j zi else if j = k then x else l.getD (j - 1) zi := by
  unfold ins
  have e1 : (l.take k).length = k := by rw [List.length_take]; omega
  simp only [List.getD_eq_getElem?_getD]
  by_cases h1 : j < k
  · rw [if_pos h1, List.getElem?_append_left (by rw [List.length_append, e1]; simp; omega), List.getElem?_append_left (by omega), List.getElem?_take_of_lt h1]
  · rw [if_neg h1]
    by_cases h2 : j = k
    · subst h2
      rw [if_pos rfl, List.getElem?_append_left (by rw [List.length_append, e1]; simp), List.getElem?_append_right (by omega), e1, Nat.sub_self]; rfl
    · rw [if_neg h2, List.getElem?_append_right (by rw [List.length_append, e1]; simp; omega), List.length_append, e1, List.getElem?_drop]
      congr 2
      simp only [List.length_cons, List.length_nil]
      omega
theorem kp_add (c : Int) (l : List It) (id w : Int) : Kp c (vAdd c l id w) := by
  intro he
  unfold vAdd at he ⊢
  cases hq : qck c l with
  | false => rw [hq, if_neg Bool.false_ne_true] at he; cases he
  | true =>
    rw [hq, if_pos rfl] at he
    rw [if_pos rfl]
    by_cases h1 : wok w = true ∧ id ≠ 0
    case neg => rw [if_neg h1] at he; cases he
    rw [if_pos h1] at he ⊢
    cases hF : bsF l id with
    | true => rw [hF, if_pos rfl] at he; cases he
    | false =>
      rw [hF, if_neg Bool.false_ne_true] at he
      rw [if_neg Bool.false_ne_true]
      by_cases hn : l.length = 192
      · rw [if_pos hn] at he; cases he
      rw [if_neg hn]
      have hqi := qck_iff hq
      have hs := qck_srt hq
      have hk := bsV_le l id
      obtain ⟨b1, b2⟩ := bsV_srt (id := id) hs
      have hne : ∀ t, bsV l id ≤ t → t < l.length → id < (l.getD t zi).i := by
        intro t h1 h2
        have h3 := b2 t h1 h2
        by_cases e : (l.getD t zi).i = id
        · have := (bsV_at hs h2 e).2
          rw [this] at hF; cases hF
        · omega
      have hil := ins_len l (bsV l id) ⟨id, w, c, false⟩ hk
      have hat := ins_at l (bsV l id) ⟨id, w, c, false⟩ hk
      have hcr := cst_rng w
      simp only
      refine stC_ok ⟨hqi.1, hqi.2.1⟩ (by omega) ?_ ?_
      · intro i j hij hj
        rw [hil] at hj
        rw [hat i, hat j]
        by_cases c1 : j < bsV l id
        · rw [if_pos (by omega), if_pos c1]; exact hs i j hij (by omega)
        · rw [if_neg c1]
          by_cases c2 : j = bsV l id
          · rw [if_pos c2, if_pos (by omega)]
            exact b1 i (by omega)
          · rw [if_neg c2]
            by_cases c3 : i < bsV l id
            · rw [if_pos c3]; exact hs i (j - 1) (by omega) (by omega)
            · rw [if_neg c3]
              by_cases c4 : i = bsV l id
              · rw [if_pos c4]; exact hne (j - 1) (by omega) (by omega)
              · rw [if_neg c4]; exact hs (i - 1) (j - 1) (by omega) (by omega)
      · intro j hj
        rw [hil] at hj
        rw [hat j]
        split
        · exact qck_ok hq (by omega)
        · split
          · exact iOk_all.2 ⟨h1.2, h1.1, hqi.1, by simp only; omega, hqi.2.1, fun h => by cases h⟩
          · exact qck_ok hq (by omega)
theorem qck_zero : qck 0 [] = true := by decide
end Go.Proofs.Ytabanfgnnelfcaa
