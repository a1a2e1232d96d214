/- Contracts of functions, told of values, on the way to VirtualLag. -/
import Derived.Test.YtabanfgnnelfcaaTyCa
import Derived.Test.YtabanfgnnelfcaaVtkCa
import Derived.Test.YtabanfgnnelfcaaVtnCa
namespace Go.Proofs.Ytabanfgnnelfcaa
set_option linter.unusedVariables false
set_option linter.unusedSimpArgs false
open Go.Proofs.Ytabanfgnnelfcaa.Sh
set_option maxRecDepth 20000
def Hd (q : List It) (a w : Int) : Prop := ∃ i, i < q.length ∧ (q.getD i zi).i = a ∧ (q.getD i zi).a = true ∧ (q.getD i zi).w = w
theorem hd_fnd {c : Int} {q : List It} {a w : Int} (hq : qck c q = true) (h : Hd q a w) : ∃ x, fnd c q a = (x, true) ∧ x.w = w ∧ c ≤ x.v ∧ x.v ≤ c + cst w ∧ x.v ≤ 1152921504606846976 := by
  obtain ⟨i, hi, h1, h2, h3⟩ := h
  have ho := iOk_all.1 (qck_ok hq hi)
  exact ⟨_, fnd_at hq hi h1.symm, h3, ho.2.2.2.2.2 h2, by rw [← h3]; exact ho.2.2.2.1, ho.2.2.2.2.1⟩
theorem hd_set {q : List It} {a w : Int} (h : Hd q a w) {k : Nat} (hk : (q.getD k zi).i ≠ a) (x : It) : Hd (q.set k x) a w := by
  obtain ⟨i, hi, h1, h2, h3⟩ := h
  have hne : k ≠ i := fun e => hk (by rw [e]; exact h1)
  exact ⟨i, by rw [List.length_set]; exact hi, by rw [getD_set_ne _ _ _ _ hne]; exact h1, by rw [getD_set_ne _ _ _ _ hne]; exact h2, by rw [getD_set_ne _ _ _ _ hne]; exact h3⟩
theorem hd_set' {q : List It} {a w : Int} (h : Hd q a w) {k : Nat} {x : It} (h1' : x.i = (q.getD k zi).i) (h2' : x.a = true) (h3' : x.w = (q.getD k zi).w) : Hd (q.set k x) a w := by
  obtain ⟨i, hi, h1, h2, h3⟩ := h
  by_cases e : k = i
  · subst e
    exact ⟨k, by rw [List.length_set]; exact hi, by rw [getD_set _ _ _ hi, h1']; exact h1, by rw [getD_set _ _ _ hi]; exact h2', by rw [getD_set _ _ _ hi, h3']; exact h3⟩
  · exact ⟨i, by rw [List.length_set]; exact hi, by rw [getD_set_ne _ _ _ _ e]; exact h1, by rw [getD_set_ne _ _ _ _ e]; exact h2, by rw [getD_set_ne _ _ _ _ e]; exact h3⟩
theorem raise_w (v : Int) (y : It) : (raise v y).w = y.w := by unfold raise; split <;> rfl
theorem raise_a (v : Int) (y : It) : (raise v y).a = y.a := by
  unfold raise
  split
  · rename_i h; exact h.symm
  · rfl
theorem hd_map {q : List It} {a w : Int} (h : Hd q a w) (v : Int) : Hd (q.map (raise v)) a w := by
  obtain ⟨i, hi, h1, h2, h3⟩ := h
  exact ⟨i, by rw [List.length_map]; exact hi, by rw [map_at' _ _ _ hi, raise_i]; exact h1, by rw [map_at' _ _ _ hi, raise_a]; exact h2, by rw [map_at' _ _ _ hi, raise_w]; exact h3⟩
theorem chg_ok {c : Int} {l : List It} {id : Int} {F : Int × List It} (he : (chg c l id F).2 = 0) : qck c l = true ∧ bsF l id = true ∧ F.1 = 0 ∧ (chg c l id F).1.2 = F.2 := by
  unfold chg at he ⊢
  cases hq : qck c l with
  | false => rw [hq, if_neg Bool.false_ne_true] at he; cases he
  | true =>
    rw [hq, if_pos rfl] at he
    rw [if_pos rfl]
    cases hF : bsF l id with
    | false => rw [hF, if_neg Bool.false_ne_true] at he; cases he
    | true =>
      rw [hF, if_pos rfl] at he
      rw [if_pos rfl]
      by_cases h0 : F.1 = 0
      · rw [if_pos h0]; exact ⟨rfl, rfl, h0, rfl⟩
      · rw [if_neg h0] at he; exact absurd he h0
def Inv (a wa b wb m c : Int) (q : List It) : Prop := qck c q = true ∧ Hd q a wa ∧ Hd q b wb ∧ qMax m c q
variable {a wa b wb m c : Int} {q : List It}
theorem inv_up {m' : Int} (h : Inv a wa b wb m c q) (hm : m ≤ m') : Inv a wa b wb m' c q := ⟨h.1, h.2.1, h.2.2.1, qMax_up h.2.2.2 hm⟩
theorem inv_wake (h : Inv a wa b wb m c q) (hm : 0 ≤ m) {id : Int} (ha : id ≠ a) (hb : id ≠ b) (he : (chg c q id (wkF c q (bsV q id))).2 = 0) : Inv a wa b wb (m + 1073741824) (chg c q id (wkF c q (bsV q id))).1.1 (chg c q id (wkF c q (bsV q id))).1.2 := by
  have hk := (kp_wake c q id he).1
  have hM := qMax_op [] (c, q) id 2 0 hm h.2.2.2
  rw [show qOp [] (c, q) id 2 0 = (chg c q id (wkF c q (bsV q id)), 0) from rfl] at hM
  obtain ⟨_, hF, h0, hl⟩ := chg_ok he
  obtain ⟨_, hid⟩ := bsF_lt hF
  refine ⟨hk, ?_, ?_, hM⟩ <;> rw [hl] <;> unfold wkF <;> split
  · exact h.2.1
  · exact hd_set h.2.1 (by rw [hid]; exact ha) _
  · exact h.2.2.1
  · exact hd_set h.2.2.1 (by rw [hid]; exact hb) _
theorem inv_sleep (h : Inv a wa b wb m c q) (hm : 0 ≤ m) {id : Int} (ha : id ≠ a) (hb : id ≠ b) (he : (chg c q id (slF q (bsV q id))).2 = 0) : Inv a wa b wb (m + 1073741824) (chg c q id (slF q (bsV q id))).1.1 (chg c q id (slF q (bsV q id))).1.2 := by
  have hk := (kp_sleep c q id he).1
  have hM := qMax_op [] (c, q) id 4 0 hm h.2.2.2
  rw [show qOp [] (c, q) id 4 0 = (chg c q id (slF q (bsV q id)), 0) from rfl] at hM
  obtain ⟨_, hF, h0, hl⟩ := chg_ok he
  obtain ⟨_, hid⟩ := bsF_lt hF
  refine ⟨hk, ?_, ?_, hM⟩ <;> rw [hl] <;> unfold slF <;> split
  · exact hd_set h.2.1 (by rw [hid]; exact ha) _
  · exact h.2.1
  · exact hd_set h.2.2.1 (by rw [hid]; exact hb) _
  · exact h.2.2.1
theorem inv_rew (l : List Int) (j : Nat) (h : Inv a wa b wb m c q) (hm : 0 ≤ m) {id : Int} (ha : id ≠ a) (hb : id ≠ b) (he : (rwQ c q id (wtV l j)).2 = 0) : Inv a wa b wb (m + 1073741824) (rwQ c q id (wtV l j)).1.1 (rwQ c q id (wtV l j)).1.2 := by
  have hk := (kp_rew c q id (wtV l j) he).1
  have hM := qMax_op l (c, q) id 7 j hm h.2.2.2
  rw [show qOp l (c, q) id 7 j = (rwQ c q id (wtV l j), wtA l j) from rfl] at hM
  have hh : Hd (rwQ c q id (wtV l j)).1.2 a wa ∧ Hd (rwQ c q id (wtV l j)).1.2 b wb := by
    unfold rwQ at he ⊢
    split at he
    · cases he
    · rename_i hn
      rw [if_neg hn]
      obtain ⟨_, hF, h0, hl⟩ := chg_ok he
      obtain ⟨_, hid⟩ := bsF_lt hF
      rw [hl]
      unfold rwF
      exact ⟨hd_set h.2.1 (by rw [hid]; exact ha) _, hd_set h.2.2.1 (by rw [hid]; exact hb) _⟩
  exact ⟨hk, hh.1, hh.2, hM⟩
theorem inv_serve (h : Inv a wa b wb m c q) (hm : 0 ≤ m) {id : Int} (he : (chg c q id (svF q (bsV q id))).2 = 0) : Inv a wa b wb (m + 1073741824) (chg c q id (svF q (bsV q id))).1.1 (chg c q id (svF q (bsV q id))).1.2 := by
  have hk := (kp_serve c q id he).1
  have h' := qMax_up h.2.2.2 (show m ≤ m + 1073741824 by omega)
  refine ⟨hk, ?_, ?_, qMax_chg (by omega) (fun hq hF h0 => ?_)⟩
  · obtain ⟨_, hF, h0, hl⟩ := chg_ok he
    rw [hl]
    unfold svF
    split
    · split
      · exact h.2.1
      · exact hd_set' (hd_map h.2.1 _) (by rw [map_at' _ _ _ (bsF_lt hF).1, raise_i]) rfl (by rw [map_at' _ _ _ (bsF_lt hF).1, raise_w])
    · exact h.2.1
  · obtain ⟨_, hF, h0, hl⟩ := chg_ok he
    rw [hl]
    unfold svF
    split
    · split
      · exact h.2.2.1
      · exact hd_set' (hd_map h.2.2.1 _) (by rw [map_at' _ _ _ (bsF_lt hF).1, raise_i]) rfl (by rw [map_at' _ _ _ (bsF_lt hF).1, raise_w])
    · exact h.2.2.1
  · obtain ⟨hkl, hid⟩ := bsF_lt hF
    have h1 := h.2.2.2.2 _ hkl
    have h2 := cst_rng (q.getD (bsV q id) zi).w
    unfold svF
    split
    · split
      · exact h'
      · exact qMax_set (qMax_map h' (by omega)) (by rw [List.length_map]; exact hkl) (by simp only; omega)
    · exact h'
theorem pick_pre (q : List It) (el : List Int) (hnz : ∀ i, i < q.length → (q.getD i zi).i ≠ 0) : ∀ n, n ≤ q.length →
    (((q.take n).foldl (pkS el) (0, 0)).2 = 0 ∧ ∀ i, i < n → ¬ ((q.getD i zi).a = true ∧ hasI (q.getD i zi).i el = true)) ∨ ∃ k, k < n ∧ (q.getD k zi).a = true ∧ hasI (q.getD k zi).i el = true ∧ ((q.take n).foldl (pkS el) (0, 0)).2 = (q.getD k zi).i
  | 0, _ => Or.inl ⟨rfl, fun i hi => by omega⟩
  | n + 1, hn => by
    rw [fold_take (pkS el) (0, 0) q n (by omega)]
    have ih := pick_pre q el hnz n (by omega)
    generalize (q.take n).foldl (pkS el) (0, 0) = s at *
    unfold pkS
    by_cases hc : ((q.getD n zi).a && (decide (s.2 = 0) || decide ((q.getD n zi).v < s.1)) && hasI (q.getD n zi).i el) = true
    · rw [if_pos hc]
      rw [Bool.and_eq_true, Bool.and_eq_true] at hc
      exact Or.inr ⟨n, by omega, hc.1.1, hc.2, rfl⟩
    · rw [if_neg hc]
      rcases ih with ⟨h0, hall⟩ | ⟨k, hk, h1, h2, h3⟩
      · refine Or.inl ⟨h0, fun i hi => ?_⟩
        by_cases e : i = n
        · subst e
          intro hh
          rw [hh.1, hh.2, decide_eq_true h0] at hc
          exact hc rfl
        · exact hall i (by omega)
      · exact Or.inr ⟨k, by omega, h1, h2, h3⟩
theorem pick_ok (hq : qck c q = true) (h : Hd q a wa) {el : List Int} (he : hasI a el = true) : ∃ k, k < q.length ∧ (q.getD k zi).a = true ∧ hasI (q.getD k zi).i el = true ∧ vPick c q el = ((q.getD k zi).i, true) := by
  have hnz : ∀ i, i < q.length → (q.getD i zi).i ≠ 0 := fun i hi => (iOk_all.1 (qck_ok hq hi)).1
  obtain ⟨i, hi, h1, h2, h3⟩ := h
  rcases pick_pre q el hnz q.length (Nat.le_refl _) with ⟨_, hall⟩ | ⟨k, hk, e1, e2, e3⟩
  · exact absurd ⟨h2, by rw [h1]; exact he⟩ (hall i hi)
  · rw [List.take_length] at e3
    refine ⟨k, hk, e1, e2, ?_⟩
    unfold vPick pkF
    rw [if_pos hq, e3, decide_eq_false (hnz k hk)]
    rfl
def act (q : List It) (n : Nat) : List Int := ((q.take n).filter (fun x => x.a)).map (fun x => x.i)
theorem act_zero (q : List It) : act q 0 = [] := by simp [act]
theorem act_yes (q : List It) (i : Nat) (h : i < q.length) (ha : (q.getD i zi).a = true) : act q (i + 1) = act q i ++ [(q.getD i zi).i] := by
  unfold act
  rw [take_up q i h, List.filter_append, List.map_append]
  congr 1
  simp only [List.filter_cons, List.filter_nil, ha, if_true, List.map_cons, List.map_nil]
theorem act_no (q : List It) (i : Nat) (h : i < q.length) (ha : (q.getD i zi).a = false) : act q (i + 1) = act q i := by
  unfold act
  rw [take_up q i h, List.filter_append, List.map_append]
  simp only [List.filter_cons, List.filter_nil, ha, Bool.false_eq_true, if_false, List.map_nil, List.append_nil]
theorem act_len (q : List It) (n : Nat) : (act q n).length ≤ q.length := by
  unfold act
  rw [List.length_map]
  exact Nat.le_trans (List.length_filter_le _ _) (by rw [List.length_take]; omega)
theorem act_mem {d : Int} (h : d ∈ act q q.length) : ∃ w, Hd q d w := by
  unfold act at h
  rw [List.take_length] at h
  obtain ⟨x, hx, rfl⟩ := List.mem_map.1 h
  obtain ⟨hm, ha⟩ := List.mem_filter.1 hx
  obtain ⟨i, hi, rfl⟩ := List.mem_iff_getElem.1 hm
  have e : q.getD i zi = q[i] := by rw [List.getD_eq_getElem?_getD, List.getElem?_eq_getElem hi, Option.getD_some]
  exact ⟨_, i, hi, by rw [e], by rw [e]; exact ha, rfl⟩
theorem hasI_mem {a : Int} {el : List Int} (h : a ∈ el) : hasI a el = true := by
  unfold hasI
  rw [List.any_eq_true]
  exact ⟨a, h, decide_eq_true rfl⟩
end Go.Proofs.Ytabanfgnnelfcaa
