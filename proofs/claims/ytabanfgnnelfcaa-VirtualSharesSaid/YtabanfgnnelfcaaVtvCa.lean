/- Contracts of functions, told of values, on the way to VirtualShares. -/
import Derived.Test.YtabanfgnnelfcaaTyCa
import Derived.Test.YtabanfgnnelfcaaVttCa
namespace Go.Proofs.Ytabanfgnnelfcaa
set_option linter.unusedVariables false
set_option linter.unusedSimpArgs false
open Go.Proofs.Ytabanfgnnelfcaa.Sh
set_option maxRecDepth 20000
def sumN (f : Nat → Int) : Nat → Int
  | 0 => 0
  | n + 1 => sumN f n + f n
theorem sumN_le {f g : Nat → Int} : ∀ m, (∀ i, i < m → f i ≤ g i) → sumN f m ≤ sumN g m
  | 0, _ => Int.le_refl _
  | m + 1, h => Int.add_le_add (sumN_le m (fun i hi => h i (by omega))) (h m (by omega))
theorem sumN_mul (a : Int) (f : Nat → Int) : ∀ m, sumN (fun i => a * f i) m = a * sumN f m
  | 0 => by simp [sumN]
  | m + 1 => by rw [sumN, sumN, sumN_mul a f m, Int.mul_add]
theorem sumN_sub (f : Nat → Int) : ∀ m : Nat, sumN (fun i => f i - 1) m = sumN f m - m
  | 0 => by simp [sumN]
  | m + 1 => by rw [sumN, sumN, sumN_sub f m]; omega
theorem sumN_nn {f : Nat → Int} : ∀ m, (∀ i, i < m → 0 ≤ f i) → 0 ≤ sumN f m
  | 0, _ => Int.le_refl _
  | m + 1, h => by
    have h1 := sumN_nn m (fun i hi => h i (by omega))
    have h2 := h m (by omega)
    rw [sumN]; omega
theorem sumN_one {f : Nat → Int} : ∀ m, (∀ i, i < m → 0 ≤ f i) → ∀ j, j < m → f j ≤ sumN f m
  | 0, _, j, hj => by omega
  | m + 1, h, j, hj => by
    have h2 := h m (by omega)
    rw [sumN]
    by_cases e : j = m
    · subst e
      have := sumN_nn j (fun i hi => h i (by omega))
      omega
    · have := sumN_one m (fun i hi => h i (by omega)) j (by omega)
      omega
theorem sumN_congr {f g : Nat → Int} : ∀ m, (∀ i, i < m → f i = g i) → sumN f m = sumN g m
  | 0, _ => rfl
  | m + 1, h => by rw [sumN, sumN, sumN_congr m (fun i hi => h i (by omega)), h m (by omega)]
theorem sumN_upd {f g : Nat → Int} {k : Nat} : ∀ m, k < m → (∀ i, i < m → i ≠ k → g i = f i) → g k = f k + 1 → sumN g m = sumN f m + 1
  | 0, hk, _, _ => by omega
  | m + 1, hk, h, hg => by
    rw [sumN, sumN]
    by_cases e : k = m
    · subst e
      rw [sumN_congr k (fun i hi => h i (by omega) (by omega)), hg]
      omega
    · rw [sumN_upd m (by omega) (fun i hi hik => h i (by omega) hik) hg, h m (by omega) (fun h => e h.symm)]
      omega
theorem cst_two {a : Int} (h : wok a = true) : 1073741824 ≤ cst a * a ∧ cst a * a ≤ 1073741824 + a := by
  obtain ⟨a1, a2⟩ := wok_iff.1 h
  unfold cst
  rw [if_pos h]
  have e := Int.mul_ediv_add_emod (1073741824 + a - 1) a
  have r1 := Int.emod_nonneg (1073741824 + a - 1) (show a ≠ 0 by omega)
  have r2 := Int.emod_lt_of_pos (1073741824 + a - 1) (show 0 < a by omega)
  generalize (1073741824 + a - 1) % a = r at *
  generalize (1073741824 + a - 1) / a = q at *
  rw [Int.mul_comm a q] at e
  constructor <;> omega
theorem share_one {wi wj gi gj : Int} (hi : wok wi = true) (hj : wok wj = true) (h0 : 0 ≤ gi) (h1 : 0 ≤ gj) (h : (gi - 1) * cst wi ≤ gj * cst wj) :
    1073741824 * wj * (gi - 1) ≤ gj * (1073741824 + wj) * wi := by
  obtain ⟨a1, a2⟩ := wok_iff.1 hi
  obtain ⟨b1, b2⟩ := wok_iff.1 hj
  obtain ⟨c1, c2⟩ := cst_two hi
  obtain ⟨d1, d2⟩ := cst_two hj
  have hr : 0 ≤ gj * (1073741824 + wj) * wi := Int.mul_nonneg (Int.mul_nonneg h1 (by omega)) (by omega)
  by_cases hg : gi = 0
  · subst hg
    have : 0 ≤ 1073741824 * wj := by omega
    omega
  · have g0 : 0 ≤ gi - 1 := by omega
    generalize gi - 1 = g at *
    have m1 : g * 1073741824 ≤ g * (cst wi * wi) := Int.mul_le_mul_of_nonneg_left c1 g0
    have m2 : g * cst wi * wi ≤ gj * cst wj * wi := Int.mul_le_mul_of_nonneg_right h (by omega)
    rw [Int.mul_assoc] at m2
    have m3 : g * 1073741824 * wj ≤ gj * cst wj * wi * wj := Int.mul_le_mul_of_nonneg_right (Int.le_trans m1 m2) (by omega)
    have m4 : gj * wi * (cst wj * wj) ≤ gj * wi * (1073741824 + wj) := Int.mul_le_mul_of_nonneg_left d2 (Int.mul_nonneg h1 (by omega))
    have e1 : gj * cst wj * wi * wj = gj * wi * (cst wj * wj) := by simp only [Int.mul_assoc, Int.mul_comm, Int.mul_left_comm]
    have e2 : gj * wi * (1073741824 + wj) = gj * (1073741824 + wj) * wi := by simp only [Int.mul_assoc, Int.mul_comm, Int.mul_left_comm]
    have e3 : g * 1073741824 * wj = 1073741824 * wj * g := by simp only [Int.mul_assoc, Int.mul_comm, Int.mul_left_comm]
    rw [e1] at m3
    rw [e2] at m4
    rw [e3] at m3
    exact Int.le_trans m3 m4
theorem share_fin (m : Nat) (w G : Nat → Int) (n : Int) (j : Nat) (hj : j < m) (hw : ∀ i, i < m → wok (w i) = true) (hG : ∀ i, i < m → 0 ≤ G i) (hn : sumN G m = n) (hn2 : n ≤ 255)
    (h : ∀ i, i < m → (G i - 1) * cst (w i) ≤ G j * cst (w j)) : ¬ G j + m < n * w j / sumN w m := by
  have hwi := fun i hi => wok_iff.1 (hw i hi)
  have hS := sumN_le m (fun i hi => share_one (hw i hi) (hw j hj) (hG i hi) (hG j hj) (h i hi))
  rw [sumN_mul, sumN_mul, sumN_sub, hn] at hS
  have hWj : w j ≤ sumN w m := sumN_one m (fun i hi => by have := hwi i hi; omega) j hj
  have hGj : G j ≤ n := by rw [← hn]; exact sumN_one m hG j hj
  have hg0 := hG j hj
  obtain ⟨b1, b2⟩ := hwi j hj
  generalize sumN w m = W at *
  generalize w j = v at *
  generalize G j = g at *
  clear hG hw hwi h
  have hW : 0 < W := by omega
  have hlt : n * v < (g + m + 1) * W := by
    have p1 : g * v ≤ 255 * 10000 := Int.mul_le_mul (by omega) b2 (by omega) (by omega)
    have p2 : g * v * W ≤ 2550000 * W := Int.mul_le_mul_of_nonneg_right p1 (by omega)
    have p3 : (m : Int) * v ≤ m * W := Int.mul_le_mul_of_nonneg_left hWj (by omega)
    have e1 : 1073741824 * v * (n - m) = 1073741824 * (n * v) - 1073741824 * (m * v) := by
      rw [Int.mul_sub]; simp only [Int.mul_assoc, Int.mul_comm, Int.mul_left_comm]
    have e2 : g * (1073741824 + v) * W = 1073741824 * (g * W) + g * v * W := by
      rw [Int.mul_add, Int.add_mul]; simp only [Int.mul_assoc, Int.mul_comm, Int.mul_left_comm]
    have e3 : (g + m + 1) * W = g * W + m * W + W := by rw [Int.add_mul, Int.add_mul, Int.one_mul]
    rw [e1, e2] at hS
    rw [e3]
    generalize g * v * W = x1 at *
    generalize n * v = x2 at *
    generalize (m : Int) * v = x3 at *
    generalize (m : Int) * W = x4 at *
    generalize g * W = x5 at *
    omega
  have := Int.ediv_lt_of_lt_mul hW hlt
  omega
set_option maxRecDepth 20000
theorem srv_set {c : Int} {q : List It} (hq : qck c q = true) {k : Nat} (hk : k < q.length) (ha : (q.getD k zi).a = true)
    (hle : ∀ i, i < q.length → (q.getD i zi).a = true → (q.getD k zi).v ≤ (q.getD i zi).v) (hM : (q.getD k zi).v + cst (q.getD k zi).w ≤ 1152921504606846976) :
    ∃ c', chg c q (q.getD k zi).i (svF q (bsV q (q.getD k zi).i)) = ((c', q.set k ⟨(q.getD k zi).i, (q.getD k zi).w, (q.getD k zi).v + cst (q.getD k zi).w, true⟩), 0) ∧
      qck c' (q.set k ⟨(q.getD k zi).i, (q.getD k zi).w, (q.getD k zi).v + cst (q.getD k zi).w, true⟩) = true := by
  have hkp := kp_serve c q (q.getD k zi).i
  rw [chg_at hq hk rfl (svF q)] at hkp ⊢
  have hr : ∀ j, j < q.length → raise (q.getD k zi).v (q.getD j zi) = q.getD j zi := by
    intro j hj
    unfold raise
    split
    · rename_i hja
      have := hle j hj hja
      rw [if_neg (by omega), ← hja]
    · rfl
  have hmap : q.map (raise (q.getD k zi).v) = q := by
    apply List.ext_getElem (by rw [List.length_map])
    intro j h1 h2
    have := hr j h2
    rw [List.getElem_map]
    rw [List.getD_eq_getElem?_getD (l := q) (i := j), List.getElem?_eq_getElem h2, Option.getD_some] at this
    exact this
  have e : svF q k = (0, q.set k ⟨(q.getD k zi).i, (q.getD k zi).w, (q.getD k zi).v + cst (q.getD k zi).w, true⟩) := by
    unfold svF
    rw [if_pos ha, if_neg (by omega), hmap]
  rw [e, if_pos rfl] at hkp ⊢
  exact ⟨_, rfl, (hkp rfl).1⟩
def Shr (T : Int → Int) (s c : Int) (q : List It) : Prop :=
  qck c q = true ∧ (∀ k, k < q.length → (q.getD k zi).a = true ∧ (q.getD k zi).v = T (q.getD k zi).i * cst (q.getD k zi).w ∧ 0 ≤ T (q.getD k zi).i) ∧
  (∀ i j, i < q.length → j < q.length → (T (q.getD i zi).i - 1) * cst (q.getD i zi).w ≤ T (q.getD j zi).i * cst (q.getD j zi).w) ∧
  sumN (fun k => T (q.getD k zi).i) q.length = s
theorem Shr.serve {T : Int → Int} {s c : Int} {q : List It} (h : Shr T s c q) {k : Nat} (hk : k < q.length)
    (hle : ∀ i, i < q.length → (q.getD i zi).a = true → (q.getD k zi).v ≤ (q.getD i zi).v) (hM : (q.getD k zi).v + cst (q.getD k zi).w ≤ 1152921504606846976) :
    ∃ c' q', chg c q (q.getD k zi).i (svF q (bsV q (q.getD k zi).i)) = ((c', q'), 0) ∧ q'.length = q.length ∧ (∀ j, (q'.getD j zi).i = (q.getD j zi).i ∧ (q'.getD j zi).w = (q.getD j zi).w) ∧
      Shr (fun d => if d = (q.getD k zi).i then T d + 1 else T d) (s + 1) c' q' := by
  obtain ⟨hq, h1, h2, h3⟩ := h
  obtain ⟨ha, hv, ht⟩ := h1 k hk
  obtain ⟨c', e1, e2⟩ := srv_set hq hk ha hle hM
  have hs := qck_srt hq
  have hne : ∀ j, j < q.length → j ≠ k → (q.getD j zi).i ≠ (q.getD k zi).i := by
    intro j hj hjk
    rcases Nat.lt_or_gt_of_ne hjk with hlt | hlt
    · have := hs j k hlt hk; omega
    · have := hs k j hlt hj; omega
  have gs := getD_set q k ⟨(q.getD k zi).i, (q.getD k zi).w, (q.getD k zi).v + cst (q.getD k zi).w, true⟩ hk
  have gn := fun j (hj : k ≠ j) => getD_set_ne q k j ⟨(q.getD k zi).i, (q.getD k zi).w, (q.getD k zi).v + cst (q.getD k zi).w, true⟩ hj
  have hl : (q.set k ⟨(q.getD k zi).i, (q.getD k zi).w, (q.getD k zi).v + cst (q.getD k zi).w, true⟩).length = q.length := List.length_set
  generalize q.set k ⟨(q.getD k zi).i, (q.getD k zi).w, (q.getD k zi).v + cst (q.getD k zi).w, true⟩ = Q at *
  have hiw : ∀ j, (Q.getD j zi).i = (q.getD j zi).i ∧ (Q.getD j zi).w = (q.getD j zi).w := by
    intro j
    by_cases e : k = j
    · subst e; rw [gs]; exact ⟨rfl, rfl⟩
    · rw [gn j e]; exact ⟨rfl, rfl⟩
  have hT : ∀ j, j < q.length → j ≠ k → (if (q.getD j zi).i = (q.getD k zi).i then T (q.getD j zi).i + 1 else T (q.getD j zi).i) = T (q.getD j zi).i := fun j hj hjk => if_neg (hne j hj hjk)
  have hcp := cst_rng (q.getD k zi).w
  refine ⟨c', Q, e1, hl, hiw, e2, fun j hj => ?_, fun i j hi hj => ?_, ?_⟩
  · rw [hl] at hj
    by_cases e : k = j
    · subst e
      rw [gs]
      simp only [if_true]
      refine ⟨trivial, ?_, by omega⟩
      rw [Int.add_mul, Int.one_mul, hv]
    · rw [gn j e]
      simp only
      rw [hT j hj (Ne.symm e)]
      exact h1 j hj
  · rw [hl] at hi hj
    rw [(hiw i).1, (hiw i).2, (hiw j).1, (hiw j).2]
    simp only
    by_cases ej : j = k
    · subst ej
      simp only [if_true]
      by_cases ei : i = j
      · subst ei
        simp only [if_true]
        exact Int.mul_le_mul_of_nonneg_right (by omega) hcp.1
      · rw [hT i hi ei]
        have := h2 i j hi hj
        rw [Int.add_mul, Int.one_mul]
        omega
    · rw [hT j hj ej]
      by_cases ei : i = k
      · subst ei
        simp only [if_true]
        have g1 := hle j hj (h1 j hj).1
        rw [hv, (h1 j hj).2.1] at g1
        rw [Int.add_sub_cancel]
        exact g1
      · rw [hT i hi ei]
        exact h2 i j hi hj
  · rw [hl, ← h3]
    refine sumN_upd q.length hk (fun i hi hik => ?_) ?_
    · rw [(hiw i).1]; exact hT i hi hik
    · rw [(hiw k).1]; simp only [if_true]
theorem Shr.fin {T : Int → Int} {s c : Int} {q : List It} (h : Shr T s c q) (hs : s ≤ 255) {j : Nat} (hj : j < q.length) : ¬ T (q.getD j zi).i + q.length < s * (q.getD j zi).w / sumN (fun k => (q.getD k zi).w) q.length := by
  obtain ⟨hq, h1, h2, h3⟩ := h
  exact share_fin q.length (fun k => (q.getD k zi).w) (fun k => T (q.getD k zi).i) s j hj (fun i hi => (iOk_all.1 (qck_ok hq hi)).2.1) (fun i hi => (h1 i hi).2.2) h3 hs (fun i hi => h2 i j hi hj)
def Ini (n : Nat) (q : List It) : Prop := qck 0 q = true ∧ q.length = n ∧ ∀ k, k < n → (q.getD k zi).i = (k : Int) + 1 ∧ (q.getD k zi).a = true ∧ (q.getD k zi).v = 0
theorem ini_zero : Ini 0 [] := ⟨qck_zero, rfl, fun k hk => by omega⟩
theorem stC_zero {q : List It} (h : ∀ k, k < q.length → (q.getD k zi).v = 0) : stC 0 q = 0 := by
  unfold stC
  cases hf : (lsV q).2 with
  | false => rfl
  | true =>
    rw [if_pos rfl]
    obtain ⟨⟨i, b1, b2, b3⟩, _⟩ := (lsV_ok q).1 hf
    have := h i b1
    rw [if_neg (by omega)]
theorem Ini.shr {n : Nat} {q : List It} (h : Ini n q) : Shr (fun _ => 0) 0 0 q := by
  obtain ⟨h1, h2, h3⟩ := h
  refine ⟨h1, fun k hk => ?_, fun i j hi hj => ?_, ?_⟩
  · obtain ⟨a1, a2, a3⟩ := h3 k (by omega)
    exact ⟨a2, by rw [a3]; simp, by simp⟩
  · have := cst_rng (q.getD i zi).w
    simp only [Int.zero_mul]
    omega
  · have := sumN_mul 0 (fun _ => 0) q.length
    simpa using this
theorem app_at (q : List It) (x : It) (k : Nat) (h : k < q.length) : (q ++ [x]).getD k zi = q.getD k zi := by
  rw [List.getD_eq_getElem?_getD, List.getD_eq_getElem?_getD, List.getElem?_append_left h]
theorem app_last (q : List It) (x : It) : (q ++ [x]).getD q.length zi = x := by
  rw [List.getD_eq_getElem?_getD, List.getElem?_append_right (Nat.le_refl _), Nat.sub_self]
  rfl
theorem Ini.step {n : Nat} {q : List It} (h : Ini n q) (hn : n ≤ 100) {w id : Int} (hid : id = (n : Int) + 1) (hw : wok w = true) :
    ∃ q1 q2, vAdd 0 q id w = ((0, q1), 0) ∧ q1.length = n + 1 ∧ chg 0 q1 id (wkF 0 q1 (bsV q1 id)) = ((0, q2), 0) ∧ Ini (n + 1) q2 ∧ sumN (fun k => (q2.getD k zi).w) q2.length = sumN (fun k => (q.getD k zi).w) q.length + w := by
  obtain ⟨h1, h2, h3⟩ := h
  have hs := qck_srt h1
  have hk := kp_add 0 q id w
  have hb : bsV q id = n := bsV_of hs (by omega) (fun j hj => by have := (h3 j hj).1; omega) (fun hl => by omega)
  have hF : bsF q id = false := bsF_no (fun i hi => by have := (h3 i (by omega)).1; omega)
  have hins : ins q n ⟨id, w, 0, false⟩ = q ++ [⟨id, w, 0, false⟩] := by
    unfold ins
    rw [← h2, List.take_length, List.drop_length, List.append_nil]
  have hz : ∀ k, k < (q ++ [(⟨id, w, 0, false⟩ : It)]).length → ((q ++ [(⟨id, w, 0, false⟩ : It)]).getD k zi).v = 0 := by
    intro k hk
    rw [List.length_append] at hk
    by_cases e : k < q.length
    · rw [app_at _ _ _ e]; exact (h3 k (by omega)).2.2
    · have : k = q.length := by simp at hk; omega
      rw [this, app_last]
  have hst := stC_zero hz
  have e1 : vAdd 0 q id w = ((0, q ++ [⟨id, w, 0, false⟩]), 0) := by
    unfold vAdd
    rw [if_pos h1, if_pos ⟨hw, by omega⟩, hF, if_neg Bool.false_ne_true, if_neg (by omega), hb, hins, hst]
  rw [e1] at hk
  have hq1 : qck 0 (q ++ [⟨id, w, 0, false⟩]) = true := (hk rfl).1
  have hl : (q ++ [(⟨id, w, 0, false⟩ : It)]).length = n + 1 := by rw [List.length_append, h2]; rfl
  have hat : (q ++ [(⟨id, w, 0, false⟩ : It)]).getD n zi = ⟨id, w, 0, false⟩ := by rw [← h2]; exact app_last q _
  have hlo : ∀ k, k < n → (q ++ [(⟨id, w, 0, false⟩ : It)]).getD k zi = q.getD k zi := fun k hk => app_at q _ k (by omega)
  refine ⟨_, (q ++ [(⟨id, w, 0, false⟩ : It)]).set n ⟨id, w, 0, true⟩, e1, hl, ?_, ?_⟩
  · generalize q ++ [(⟨id, w, 0, false⟩ : It)] = q1 at *
    have hi : n < q1.length := by omega
    rw [chg_at hq1 hi (by rw [hat]) (wkF 0 q1)]
    have e : wkF 0 q1 n = (0, q1.set n ⟨id, w, 0, true⟩) := by
      unfold wkF
      rw [hat]
      rfl
    have hz2 : ∀ k, k < (q1.set n ⟨id, w, 0, true⟩).length → ((q1.set n ⟨id, w, 0, true⟩).getD k zi).v = 0 := by
      intro k hk
      rw [List.length_set] at hk
      by_cases ek : n = k
      · subst ek; rw [getD_set _ _ _ hi]
      · rw [getD_set_ne _ _ _ _ ek]; exact hz k hk
    rw [e, if_pos rfl]
    simp only
    rw [stC_zero hz2]
  · have hkw := kp_wake 0 (q ++ [⟨id, w, 0, false⟩]) id
    generalize q ++ [(⟨id, w, 0, false⟩ : It)] = q1 at *
    have hi : n < q1.length := by omega
    have hl2 : (q1.set n ⟨id, w, 0, true⟩).length = n + 1 := by rw [List.length_set]; exact hl
    have hg := getD_set q1 n ⟨id, w, 0, true⟩ hi
    have hg' := fun k (hk : n ≠ k) => getD_set_ne q1 n k ⟨id, w, 0, true⟩ hk
    have hz2 : ∀ k, k < (q1.set n ⟨id, w, 0, true⟩).length → ((q1.set n ⟨id, w, 0, true⟩).getD k zi).v = 0 := by
      intro k hk
      rw [hl2] at hk
      by_cases ek : n = k
      · subst ek; rw [hg]
      · rw [hg' k ek]; exact hz k (by omega)
    rw [chg_at hq1 hi (by rw [hat]) (wkF 0 q1)] at hkw
    have e : wkF 0 q1 n = (0, q1.set n ⟨id, w, 0, true⟩) := by
      unfold wkF
      rw [hat]
      rfl
    rw [e, if_pos rfl] at hkw
    have hq2 := (hkw rfl).1
    simp only at hq2
    rw [stC_zero hz2] at hq2
    refine ⟨⟨hq2, hl2, fun k hk => ?_⟩, ?_⟩
    · by_cases ek : n = k
      · subst ek; rw [hg]; exact ⟨hid, rfl, rfl⟩
      · rw [hg' k ek, hlo k (by omega)]; exact h3 k (by omega)
    · rw [hl2, h2, sumN]
      have e1 : (List.getD (q1.set n ⟨id, w, 0, true⟩) n zi).w = w := by rw [hg]
      rw [e1]
      congr 1
      exact sumN_congr n (fun i hi => by rw [hg' i (by omega), hlo i hi])
end Go.Proofs.Ytabanfgnnelfcaa
