/- Contracts of functions, told of values, on the way to VirtualWakes. -/
import Derived.Test.YtabanfgnnelfcaaTyCa
import Derived.Test.YtabanfgnnelfcaaVtrCa
namespace Go.Proofs.Ytabanfgnnelfcaa
set_option linter.unusedVariables false
set_option linter.unusedSimpArgs false
open Go.Proofs.Ytabanfgnnelfcaa.Sh
set_option maxRecDepth 20000
theorem pick_min (q : List It) (el : List Int) (hnz : ∀ i, i < q.length → (q.getD i zi).i ≠ 0) : ∀ n, n ≤ q.length →
    (((q.take n).foldl (pkS el) (0, 0)).2 = 0 ∧ ∀ i, i < n → ¬ ((q.getD i zi).a = true ∧ hasI (q.getD i zi).i el = true)) ∨
    ∃ k, k < n ∧ (q.getD k zi).a = true ∧ hasI (q.getD k zi).i el = true ∧ ((q.take n).foldl (pkS el) (0, 0)).2 = (q.getD k zi).i ∧ ((q.take n).foldl (pkS el) (0, 0)).1 = (q.getD k zi).v ∧
      ∀ i, i < n → (q.getD i zi).a = true → hasI (q.getD i zi).i el = true → (q.getD k zi).v ≤ (q.getD i zi).v
  | 0, _ => Or.inl ⟨rfl, fun i hi => by omega⟩
  | n + 1, hn => by
    rw [fold_take (pkS el) (0, 0) q n (by omega)]
    have ih := pick_min q el hnz n (by omega)
    generalize (q.take n).foldl (pkS el) (0, 0) = s at *
    unfold pkS
    by_cases hc : ((q.getD n zi).a && (decide (s.2 = 0) || decide ((q.getD n zi).v < s.1)) && hasI (q.getD n zi).i el) = true
    · rw [if_pos hc]
      rw [Bool.and_eq_true, Bool.and_eq_true] at hc
      refine Or.inr ⟨n, by omega, hc.1.1, hc.2, rfl, rfl, fun i hi h1 h2 => ?_⟩
      by_cases e : i = n
      · subst e; omega
      · rcases ih with ⟨_, hall⟩ | ⟨k, hk, _, _, h3, h4, h5⟩
        · exact absurd ⟨h1, h2⟩ (hall i (by omega))
        · have h6 := h5 i (by omega) h1 h2
          have h7 := hc.1.2
          rw [Bool.or_eq_true, decide_eq_true_eq, decide_eq_true_eq] at h7
          rcases h7 with h7 | h7
          · exact absurd (h3.symm.trans h7) (hnz k (by omega))
          · omega
    · rw [if_neg hc]
      rcases ih with ⟨h0, hall⟩ | ⟨k, hk, h1, h2, h3, h4, h5⟩
      · refine Or.inl ⟨h0, fun i hi => ?_⟩
        by_cases e : i = n
        · subst e
          intro hh
          rw [hh.1, hh.2, decide_eq_true h0] at hc
          exact hc rfl
        · exact hall i (by omega)
      · refine Or.inr ⟨k, by omega, h1, h2, h3, h4, fun i hi g1 g2 => ?_⟩
        by_cases e : i = n
        · subst e
          rw [g1, g2, Bool.true_and, Bool.and_true, Bool.or_eq_true, decide_eq_true_eq, decide_eq_true_eq] at hc
          omega
        · exact h5 i (by omega) g1 g2
theorem pick_least {c : Int} {q : List It} {a wa : Int} (hq : qck c q = true) (h : Hd q a wa) {el : List Int} (he : hasI a el = true) :
    ∃ k, k < q.length ∧ (q.getD k zi).a = true ∧ vPick c q el = ((q.getD k zi).i, true) ∧ ∀ i, i < q.length → (q.getD i zi).a = true → hasI (q.getD i zi).i el = true → (q.getD k zi).v ≤ (q.getD i zi).v := by
  have hnz : ∀ i, i < q.length → (q.getD i zi).i ≠ 0 := fun i hi => (iOk_all.1 (qck_ok hq hi)).1
  obtain ⟨i, hi, h1, h2, h3⟩ := h
  rcases pick_min q el hnz q.length (Nat.le_refl _) with ⟨_, hall⟩ | ⟨k, hk, e1, e2, e3, e4, e5⟩
  · exact absurd ⟨h2, by rw [h1]; exact he⟩ (hall i hi)
  · rw [List.take_length] at e3
    refine ⟨k, hk, e1, ?_, e5⟩
    unfold vPick pkF
    rw [if_pos hq, e3, decide_eq_false (hnz k hk)]
    rfl
theorem cst_le {a b : Int} (ha : wok a = true) (hb : wok b = true) (h : a ≤ b) : cst b ≤ cst a := by
  obtain ⟨a1, a2⟩ := wok_iff.1 ha
  obtain ⟨b1, b2⟩ := wok_iff.1 hb
  unfold cst
  rw [if_pos ha, if_pos hb]
  have e1 := Int.mul_ediv_add_emod (1073741824 + a - 1) a
  have r1 := Int.emod_nonneg (1073741824 + a - 1) (show a ≠ 0 by omega)
  have r2 := Int.emod_lt_of_pos (1073741824 + a - 1) (show 0 < a by omega)
  have e2 := Int.mul_ediv_add_emod (1073741824 + b - 1) b
  have s1 := Int.emod_nonneg (1073741824 + b - 1) (show b ≠ 0 by omega)
  have s2 := Int.emod_lt_of_pos (1073741824 + b - 1) (show 0 < b by omega)
  have n1 := Int.ediv_nonneg (show 0 ≤ 1073741824 + a - 1 by omega) (show 0 ≤ a by omega)
  generalize (1073741824 + a - 1) % a = r at *
  generalize (1073741824 + b - 1) % b = s at *
  generalize (1073741824 + a - 1) / a = x at *
  generalize (1073741824 + b - 1) / b = y at *
  by_cases hh : y ≤ x
  · exact hh
  · have m1 : a * x ≤ b * x := Int.mul_le_mul_of_nonneg_right h n1
    have m2 : b * x ≤ b * (y - 1) := Int.mul_le_mul_of_nonneg_left (by omega) (by omega)
    rw [Int.mul_sub, Int.mul_one] at m2
    omega
def Wk (c0 v0 wm id : Int) (T : Int → Int) (c : Int) (q : List It) : Prop :=
  qck c q = true ∧ (∃ i, i < q.length ∧ (q.getD i zi).i = id ∧ (q.getD i zi).a = true ∧ (q.getD i zi).w = wm ∧ (q.getD i zi).v = v0) ∧
  ∀ k, k < q.length → (q.getD k zi).a = true → (q.getD k zi).w ≤ wm → c0 + T (q.getD k zi).i * cst (q.getD k zi).w ≤ (q.getD k zi).v
theorem Wk.hd {c0 v0 wm id : Int} {T : Int → Int} {c : Int} {q : List It} (h : Wk c0 v0 wm id T c q) : Hd q id wm := by
  obtain ⟨_, ⟨i, hi, h1, h2, h3, _⟩, _⟩ := h
  exact ⟨i, hi, h1, h2, h3⟩
theorem Wk.few {c0 v0 wm id : Int} {T : Int → Int} {c : Int} {q : List It} (h : Wk c0 v0 wm id T c q) (hv : v0 ≤ c0 + cst wm) {k : Nat} (hk : k < q.length) (ha : (q.getD k zi).a = true)
    (hle : ∀ i, i < q.length → (q.getD i zi).a = true → (q.getD k zi).v ≤ (q.getD i zi).v) (hw : (q.getD k zi).w ≤ wm) : T (q.getD k zi).i ≤ 1 := by
  obtain ⟨hq, ⟨i, hi, h1, h2, h3, h4⟩, hall⟩ := h
  have l1 := hall k hk ha hw
  have l2 := hle i hi h2
  have ok := (iOk_all.1 (qck_ok hq hk)).2.1
  have oi := (iOk_all.1 (qck_ok hq hi)).2.1
  rw [h3] at oi
  have l3 := cst_le ok oi hw
  have l4 := cst_pos ok
  rw [h4] at l2
  by_cases ht : T (q.getD k zi).i ≤ 1
  · exact ht
  · have : 2 * cst (q.getD k zi).w ≤ T (q.getD k zi).i * cst (q.getD k zi).w := Int.mul_le_mul_of_nonneg_right (by omega) (by omega)
    omega
theorem Wk.serve {c0 v0 wm id : Int} {T : Int → Int} {c : Int} {q : List It} (h : Wk c0 v0 wm id T c q) {k : Nat} (hk : k < q.length) (ha : (q.getD k zi).a = true)
    (hle : ∀ i, i < q.length → (q.getD i zi).a = true → (q.getD k zi).v ≤ (q.getD i zi).v) (hne : (q.getD k zi).i ≠ id) (hM : (q.getD k zi).v + cst (q.getD k zi).w ≤ 1152921504606846976) :
    ∃ c' q', chg c q (q.getD k zi).i (svF q (bsV q (q.getD k zi).i)) = ((c', q'), 0) ∧ q'.length = q.length ∧ (∀ j, (q'.getD j zi).i = (q.getD j zi).i) ∧ Wk c0 v0 wm id (fun d => if d = (q.getD k zi).i then T d + 1 else T d) c' q' := by
  obtain ⟨hq, ⟨i, hi, h1, h2, h3, h4⟩, hall⟩ := h
  have hkp := kp_serve c q (q.getD k zi).i
  rw [chg_at hq hk rfl (svF q)] at hkp ⊢
  have hr : ∀ j, j < q.length → raise (q.getD k zi).v (q.getD j zi) = q.getD j zi := by
    intro j hj
    unfold raise
    split
    · rename_i hja
      have := hle j hj hja
      rw [if_neg (by omega), ← hja]
    · rfl
  have hmap : q.map (raise (q.getD k zi).v) = q := by
    apply List.ext_getElem (by rw [List.length_map])
    intro j h1 h2
    have := hr j h2
    rw [List.getElem_map]
    rw [List.getD_eq_getElem?_getD (l := q) (i := j), List.getElem?_eq_getElem h2, Option.getD_some] at this
    exact this
  have e : svF q k = (0, q.set k ⟨(q.getD k zi).i, (q.getD k zi).w, (q.getD k zi).v + cst (q.getD k zi).w, true⟩) := by
    unfold svF
    rw [if_pos ha, if_neg (by omega), hmap]
  rw [e, if_pos rfl] at hkp ⊢
  have hk1 := (hkp rfl).1
  refine ⟨_, _, rfl, by rw [List.length_set], fun j => ?_, hk1, ?_, ?_⟩
  · by_cases ekj : k = j
    · subst ekj; rw [getD_set _ _ _ hk]
    · rw [getD_set_ne _ _ _ _ ekj]
  · have hki : k ≠ i := fun e => hne (by rw [e]; exact h1)
    exact ⟨i, by rw [List.length_set]; exact hi, by rw [getD_set_ne _ _ _ _ hki]; exact h1, by rw [getD_set_ne _ _ _ _ hki]; exact h2, by rw [getD_set_ne _ _ _ _ hki]; exact h3, by rw [getD_set_ne _ _ _ _ hki]; exact h4⟩
  · intro j hj hja hjw
    rw [List.length_set] at hj
    by_cases ekj : k = j
    · subst ekj
      rw [getD_set _ _ _ hk] at hja hjw ⊢
      have := hall k hk ha hjw
      simp only [if_true]
      rw [Int.add_mul, Int.one_mul]
      omega
    · rw [getD_set_ne _ _ _ _ ekj] at hja hjw ⊢
      have hdi : (q.getD j zi).i ≠ (q.getD k zi).i := by
        have hs := qck_srt hq
        rcases Nat.lt_or_gt_of_ne ekj with hlt | hlt
        · have := hs k j hlt hj; omega
        · have := hs j k hlt hk; omega
      simp only [if_neg hdi]
      exact hall j hj hja hjw
end Go.Proofs.Ytabanfgnnelfcaa
