/- Contracts of functions, told of values, on the way to VirtualWakes. -/
import Derived.Test.YtabanfgnnelfcaaTyCa
import Derived.Test.YtabanfgnnelfcaaVtfCa
namespace Go.Proofs.Ytabanfgnnelfcaa
set_option linter.unusedVariables false
set_option linter.unusedSimpArgs false
open Go.Proofs.Ytabanfgnnelfcaa.Sh
set_option maxRecDepth 20000
def qMax (m c : Int) (l : List It) : Prop := c ≤ m ∧ ∀ i, i < l.length → (l.getD i zi).v ≤ m
theorem qMax_up {m m' c : Int} {l : List It} (h : qMax m c l) (hm : m ≤ m') : qMax m' c l := ⟨by have := h.1; omega, fun i hi => by have := h.2 i hi; omega⟩
theorem qMax_nil {m : Int} (h : 0 ≤ m) : qMax m 0 [] := ⟨h, fun i hi => by cases hi⟩
theorem qMax_st {m c : Int} {l : List It} (h : qMax m c l) : qMax m (stC c l) l := by
  refine ⟨?_, h.2⟩
  have h1 := h.1
  unfold stC
  cases hf : (lsV l).2 with
  | false => rw [if_neg Bool.false_ne_true]; exact h1
  | true =>
    rw [if_pos rfl]
    obtain ⟨⟨j, b1, b2, b3⟩, b4⟩ := (lsV_ok l).1 hf
    have := h.2 j b1
    split <;> omega
theorem qMax_set {m c : Int} {l : List It} (h : qMax m c l) {k : Nat} (hk : k < l.length) {x : It} (hx : x.v ≤ m) : qMax m c (l.set k x) := by
  refine ⟨h.1, fun i hi => ?_⟩
  rw [List.length_set] at hi
  by_cases e : k = i
  · subst e; rw [getD_set _ _ _ hk]; exact hx
  · rw [getD_set_ne _ _ _ _ e]; exact h.2 i hi
theorem qMax_map {m c v : Int} {l : List It} (h : qMax m c l) (hv : v ≤ m) : qMax m c (l.map (raise v)) := by
  refine ⟨h.1, fun i hi => ?_⟩
  rw [List.length_map] at hi
  rw [map_at' _ _ _ hi]
  have := h.2 i hi
  unfold raise
  split
  · simp only; split <;> omega
  · exact this
theorem qMax_chg {m c : Int} {l : List It} {id : Int} {F : Int × List It} (hm : 0 ≤ m) (h : qck c l = true → bsF l id = true → F.1 = 0 → qMax m c F.2) : qMax m (chg c l id F).1.1 (chg c l id F).1.2 := by
  unfold chg
  cases hq : qck c l with
  | false => rw [if_neg Bool.false_ne_true]; exact qMax_nil hm
  | true =>
    rw [if_pos rfl]
    cases hF : bsF l id with
    | false => rw [if_neg Bool.false_ne_true]; exact qMax_nil hm
    | true =>
      rw [if_pos rfl]
      by_cases h0 : F.1 = 0
      · rw [if_pos h0]; exact qMax_st (h hq hF h0)
      · rw [if_neg h0]; exact qMax_nil hm
theorem qMax_op (l : List Int) (q : Int × List It) (id k : Int) (j : Nat) {m : Int} (hm : 0 ≤ m) (h : qMax m q.1 q.2) : qMax (m + 1073741824) (qOp l q id k j).1.1.1 (qOp l q id k j).1.1.2 := by
  have h' := qMax_up h (show m ≤ m + 1073741824 by omega)
  have hm' : 0 ≤ m + 1073741824 := by omega
  obtain ⟨c, q⟩ := q
  simp only at h h'
  unfold qOp
  split
  · simp only
    unfold vAdd
    repeat' split
    all_goals first | exact qMax_nil hm' | skip
    simp only
    refine qMax_st ⟨h'.1, fun i hi => ?_⟩
    have hk := bsV_le q id
    rw [ins_len _ _ _ hk] at hi
    rw [ins_at _ _ _ hk]
    have := h'.1
    split
    · exact h'.2 i (by omega)
    · split
      · exact this
      · exact h'.2 (i - 1) (by omega)
  · split
    · refine qMax_chg hm' (fun hq hF h0 => ?_)
      obtain ⟨hk, hid⟩ := bsF_lt hF
      have := h'.2 _ hk
      have := h'.1
      unfold wkF
      split
      · exact h'
      · exact qMax_set h' hk (by simp only; split <;> omega)
    · split
      · refine qMax_chg hm' (fun hq hF h0 => ?_)
        obtain ⟨hk, hid⟩ := bsF_lt hF
        have := h'.2 _ hk
        unfold slF
        split
        · exact qMax_set h' hk this
        · exact h'
      · split
        · split
          · refine qMax_chg hm' (fun hq hF h0 => ?_)
            obtain ⟨hk, hid⟩ := bsF_lt hF
            simp only at hk ⊢
            have h1 := h.2 _ hk
            have h2 := cst_rng (q.getD (bsV q (vPick c q [-3, -2, -1, 1, 2, 3, id]).1) zi).w
            unfold svF
            split
            · split
              · exact h'
              · exact qMax_set (qMax_map h' (by omega)) (by rw [List.length_map]; exact hk) (by simp only; omega)
            · exact h'
          · exact h'
        · simp only
          unfold rwQ
          split
          · exact qMax_nil hm'
          · refine qMax_chg hm' (fun hq hF h0 => ?_)
            obtain ⟨hk, hid⟩ := bsF_lt hF
            unfold rwF
            refine qMax_set h' hk ?_
            have hw : wok (wtV l j) = true := by
              cases hh : wok (wtV l j) with
              | true => rfl
              | false => rename_i hn; exact absurd ⟨hq, hh⟩ hn
            have hqi := qck_iff hq
            have hr := (iOk_all.1 (rwV_ok hw (qck_ok hq hk) ⟨hqi.1, hqi.2.1⟩)).2.2.2.1
            have h1 := h.1
            have h2 := cst_rng (wtV l j)
            simp only at hr ⊢
            omega
theorem qMax_lp (l : List Int) : ∀ (n : Nat) (s : (Int × List It) × Nat) (m : Int), 0 ≤ m → qMax m s.1.1 s.1.2 → qMax (m + 1073741824 * n) (qLp l n s).1.1 (qLp l n s).1.2
  | 0, s, m, _, h => by simpa [qLp] using h
  | n + 1, s, m, hm, h => by
    rw [qLp]
    have h1 := qMax_lp l n (qSt l s) (m + 1073741824) (by omega) (by
      unfold qSt
      split
      · exact qMax_op l s.1 _ _ _ hm h
      · exact qMax_up h (by omega))
    refine qMax_up h1 ?_
    rw [Int.natCast_add, Int.mul_add]
    omega
theorem mkQ_max (l : List Int) (i : Nat) (n : Int) (hn : 0 ≤ n ∧ n ≤ 100) : qMax 107374182400 (mkQ l i n).1.1 (mkQ l i n).1.2 := by
  have h := nxV_rng l i (n + 1) (by omega)
  refine qMax_up (qMax_lp l (nxV l i (n + 1)).toNat ((0, []), nxA l i (n + 1)) 0 (by omega) (qMax_nil (by omega))) ?_
  omega
theorem fnd_at {c : Int} {l : List It} (hq : qck c l = true) {i : Nat} (hi : i < l.length) {id : Int} (hid : id = (l.getD i zi).i) : fnd c l id = (l.getD i zi, true) := by
  obtain ⟨e1, e2⟩ := bsV_at (qck_srt hq) hi hid.symm
  unfold fnd
  rw [if_pos ⟨e2, hq⟩, e1]
theorem chg_at {c : Int} {l : List It} (hq : qck c l = true) {i : Nat} (hi : i < l.length) {id : Int} (hid : id = (l.getD i zi).i) (F : Nat → Int × List It) :
    chg c l id (F (bsV l id)) = if (F i).1 = 0 then ((stC c (F i).2, (F i).2), 0) else ((0, []), (F i).1) := by
  obtain ⟨e1, e2⟩ := bsV_at (qck_srt hq) hi hid.symm
  unfold chg
  rw [if_pos hq, if_pos e2, e1]
theorem wake_no {c : Int} {l : List It} (hq : qck c l = true) {i : Nat} (hi : i < l.length) {id : Int} (hid : id = (l.getD i zi).i) (ha : (l.getD i zi).a = true) : chg c l id (wkF c l (bsV l id)) = ((0, []), 9) := by
  rw [chg_at hq hi hid (wkF c l)]
  unfold wkF
  rw [if_pos ha]
  rfl
theorem wake_at {c : Int} {l : List It} (hq : qck c l = true) {i : Nat} (hi : i < l.length) {id : Int} (hid : id = (l.getD i zi).i) (ha : (l.getD i zi).a = false) :
    ∃ c' l' z, chg c l id (wkF c l (bsV l id)) = ((c', l'), 0) ∧ qck c' l' = true ∧ l'.length = l.length ∧ fnd c' l' id = (z, true) ∧ z = ⟨id, (l.getD i zi).w, if (l.getD i zi).v < c then c else (l.getD i zi).v, true⟩ := by
  have hk := kp_wake c l id
  rw [chg_at hq hi hid (wkF c l)] at hk ⊢
  have e : wkF c l i = (0, l.set i ⟨id, (l.getD i zi).w, if (l.getD i zi).v < c then c else (l.getD i zi).v, true⟩) := by
    unfold wkF
    rw [if_neg (by rw [ha]; exact Bool.false_ne_true), hid]
  rw [e, if_pos rfl] at hk ⊢
  have hk := (hk rfl).1
  simp only at hk ⊢
  have hg := getD_set l i ⟨id, (l.getD i zi).w, if (l.getD i zi).v < c then c else (l.getD i zi).v, true⟩ hi
  refine ⟨_, _, _, rfl, hk, by rw [List.length_set], ?_, rfl⟩
  rw [fnd_at hk (i := i) (by rw [List.length_set]; exact hi) (by rw [hg]), hg]
theorem serve_at {c : Int} {l : List It} (hq : qck c l = true) {i : Nat} (hi : i < l.length) {id : Int} (hid : id = (l.getD i zi).i) (ha : (l.getD i zi).a = true) (hM : (l.getD i zi).v + cst (l.getD i zi).w ≤ 1152921504606846976) :
    ∃ c' l', chg c l id (svF l (bsV l id)) = ((c', l'), 0) ∧ qck c' l' = true ∧ l'.length = l.length ∧ c ≤ c' ∧ fnd c' l' id = (⟨id, (l.getD i zi).w, (l.getD i zi).v + cst (l.getD i zi).w, true⟩, true) ∧ ∀ k, k < l.length → k ≠ i → ∀ d, d = (l.getD k zi).i → fnd c' l' d = (raise (l.getD i zi).v (l.getD k zi), true) := by
  have hk := kp_serve c l id
  rw [chg_at hq hi hid (svF l)] at hk ⊢
  have e : svF l i = (0, (l.map (raise (l.getD i zi).v)).set i ⟨id, (l.getD i zi).w, (l.getD i zi).v + cst (l.getD i zi).w, true⟩) := by
    unfold svF
    rw [if_pos ha, if_neg (by omega), hid]
  rw [e, if_pos rfl] at hk ⊢
  obtain ⟨hk, hc⟩ := hk rfl
  simp only at hk hc ⊢
  have hi' : i < (l.map (raise (l.getD i zi).v)).length := by rw [List.length_map]; exact hi
  have hg := getD_set (l.map (raise (l.getD i zi).v)) i ⟨id, (l.getD i zi).w, (l.getD i zi).v + cst (l.getD i zi).w, true⟩ hi'
  have hlen : ((l.map (raise (l.getD i zi).v)).set i ⟨id, (l.getD i zi).w, (l.getD i zi).v + cst (l.getD i zi).w, true⟩).length = l.length := by rw [List.length_set, List.length_map]
  refine ⟨_, _, rfl, hk, hlen, hc, ?_, fun k hkl hki d hd => ?_⟩
  · rw [fnd_at hk (i := i) (by rw [hlen]; exact hi) (by rw [hg]), hg]
  · have hgk : ((l.map (raise (l.getD i zi).v)).set i ⟨id, (l.getD i zi).w, (l.getD i zi).v + cst (l.getD i zi).w, true⟩).getD k zi = raise (l.getD i zi).v (l.getD k zi) := by
      rw [getD_set_ne _ _ _ _ (Ne.symm hki), map_at' _ _ _ hkl]
    rw [fnd_at hk (i := k) (by rw [hlen]; exact hkl) (by rw [hgk, raise_i, hd]), hgk]
end Go.Proofs.Ytabanfgnnelfcaa
