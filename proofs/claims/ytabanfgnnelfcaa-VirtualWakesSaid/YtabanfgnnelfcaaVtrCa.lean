/- Contracts of functions, told of values, on the way to VirtualWakes. -/
import Derived.Test.YtabanfgnnelfcaaTyCa
import Derived.Test.YtabanfgnnelfcaaVtkCa
import Derived.Test.YtabanfgnnelfcaaVtnCa
namespace Go.Proofs.Ytabanfgnnelfcaa
set_option linter.unusedVariables false
set_option linter.unusedSimpArgs false
open Go.Proofs.Ytabanfgnnelfcaa.Sh
set_option maxRecDepth 20000
def Hd (q : List It) (a w : Int) : Prop := ∃ i, i < q.length ∧ (q.getD i zi).i = a ∧ (q.getD i zi).a = true ∧ (q.getD i zi).w = w
theorem hd_fnd {c : Int} {q : List It} {a w : Int} (hq : qck c q = true) (h : Hd q a w) : ∃ x, fnd c q a = (x, true) ∧ x.w = w ∧ c ≤ x.v ∧ x.v ≤ c + cst w ∧ x.v ≤ 1152921504606846976 := by
  obtain ⟨i, hi, h1, h2, h3⟩ := h
  have ho := iOk_all.1 (qck_ok hq hi)
  exact ⟨_, fnd_at hq hi h1.symm, h3, ho.2.2.2.2.2 h2, by rw [← h3]; exact ho.2.2.2.1, ho.2.2.2.2.1⟩
theorem hd_set' {q : List It} {a w : Int} (h : Hd q a w) {k : Nat} {x : It} (h1' : x.i = (q.getD k zi).i) (h2' : x.a = true) (h3' : x.w = (q.getD k zi).w) : Hd (q.set k x) a w := by
  obtain ⟨i, hi, h1, h2, h3⟩ := h
  by_cases e : k = i
  · subst e
    exact ⟨k, by rw [List.length_set]; exact hi, by rw [getD_set _ _ _ hi, h1']; exact h1, by rw [getD_set _ _ _ hi]; exact h2', by rw [getD_set _ _ _ hi, h3']; exact h3⟩
  · exact ⟨i, by rw [List.length_set]; exact hi, by rw [getD_set_ne _ _ _ _ e]; exact h1, by rw [getD_set_ne _ _ _ _ e]; exact h2, by rw [getD_set_ne _ _ _ _ e]; exact h3⟩
theorem raise_w (v : Int) (y : It) : (raise v y).w = y.w := by unfold raise; split <;> rfl
theorem raise_a (v : Int) (y : It) : (raise v y).a = y.a := by
  unfold raise
  split
  · rename_i h; exact h.symm
  · rfl
theorem hd_map {q : List It} {a w : Int} (h : Hd q a w) (v : Int) : Hd (q.map (raise v)) a w := by
  obtain ⟨i, hi, h1, h2, h3⟩ := h
  exact ⟨i, by rw [List.length_map]; exact hi, by rw [map_at' _ _ _ hi, raise_i]; exact h1, by rw [map_at' _ _ _ hi, raise_a]; exact h2, by rw [map_at' _ _ _ hi, raise_w]; exact h3⟩
theorem chg_ok {c : Int} {l : List It} {id : Int} {F : Int × List It} (he : (chg c l id F).2 = 0) : qck c l = true ∧ bsF l id = true ∧ F.1 = 0 ∧ (chg c l id F).1.2 = F.2 := by
  unfold chg at he ⊢
  cases hq : qck c l with
  | false => rw [hq, if_neg Bool.false_ne_true] at he; cases he
  | true =>
    rw [hq, if_pos rfl] at he
    rw [if_pos rfl]
    cases hF : bsF l id with
    | false => rw [hF, if_neg Bool.false_ne_true] at he; cases he
    | true =>
      rw [hF, if_pos rfl] at he
      rw [if_pos rfl]
      by_cases h0 : F.1 = 0
      · rw [if_pos h0]; exact ⟨rfl, rfl, h0, rfl⟩
      · rw [if_neg h0] at he; exact absurd he h0
def Inv (a wa b wb m c : Int) (q : List It) : Prop := qck c q = true ∧ Hd q a wa ∧ Hd q b wb ∧ qMax m c q
variable {a wa b wb m c : Int} {q : List It}
theorem inv_up {m' : Int} (h : Inv a wa b wb m c q) (hm : m ≤ m') : Inv a wa b wb m' c q := ⟨h.1, h.2.1, h.2.2.1, qMax_up h.2.2.2 hm⟩
theorem inv_serve (h : Inv a wa b wb m c q) (hm : 0 ≤ m) {id : Int} (he : (chg c q id (svF q (bsV q id))).2 = 0) : Inv a wa b wb (m + 1073741824) (chg c q id (svF q (bsV q id))).1.1 (chg c q id (svF q (bsV q id))).1.2 := by
  have hk := (kp_serve c q id he).1
  have h' := qMax_up h.2.2.2 (show m ≤ m + 1073741824 by omega)
  refine ⟨hk, ?_, ?_, qMax_chg (by omega) (fun hq hF h0 => ?_)⟩
  · obtain ⟨_, hF, h0, hl⟩ := chg_ok he
    rw [hl]
    unfold svF
    split
    · split
      · exact h.2.1
      · exact hd_set' (hd_map h.2.1 _) (by rw [map_at' _ _ _ (bsF_lt hF).1, raise_i]) rfl (by rw [map_at' _ _ _ (bsF_lt hF).1, raise_w])
    · exact h.2.1
  · obtain ⟨_, hF, h0, hl⟩ := chg_ok he
    rw [hl]
    unfold svF
    split
    · split
      · exact h.2.2.1
      · exact hd_set' (hd_map h.2.2.1 _) (by rw [map_at' _ _ _ (bsF_lt hF).1, raise_i]) rfl (by rw [map_at' _ _ _ (bsF_lt hF).1, raise_w])
    · exact h.2.2.1
  · obtain ⟨hkl, hid⟩ := bsF_lt hF
    have h1 := h.2.2.2.2 _ hkl
    have h2 := cst_rng (q.getD (bsV q id) zi).w
    unfold svF
    split
    · split
      · exact h'
      · exact qMax_set (qMax_map h' (by omega)) (by rw [List.length_map]; exact hkl) (by simp only; omega)
    · exact h'
theorem hasI_mem {a : Int} {el : List Int} (h : a ∈ el) : hasI a el = true := by
  unfold hasI
  rw [List.any_eq_true]
  exact ⟨a, h, decide_eq_true rfl⟩
end Go.Proofs.Ytabanfgnnelfcaa
