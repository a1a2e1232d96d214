/- Contracts of functions, told of values, on the way to ThrottleSyncs (part 8). -/
import Derived.Test.YtcnilpdlcmpbbaaThrottleSyncsM3
import Derived.Test.YtcnilpdlcmpbbaaThrottleSyncsM7
-- short names of the library's lemmas
open Nat renaming reduceEqDiff → zaa, reduceLeDiff → zah, reduceAdd → zak, reduceSub → zal, reduceMul → zam, reduceLT → zan, le_of_ble_eq_true → zat
open List renaming forall_mem_cons → zab, not_mem_nil → zac, reduceReplicate → zad, map_cons → zaf, map_nil → zag, append_nil → zai, length_cons → zav, length_nil → zax, take_succ_cons → zaA, set_cons_zero → zaB, set_cons_succ → zaC, flatten_cons → zaE, flatten_nil → zaF, cons_append → zaG, nil_append → zaH, take_zero → zaI, take_nil → zaJ
open Int renaming cast_ofNat_Int → zae, natCast_add → zaj, reduceEq → zao, reduceLT → zap, reduceLE → zaq
open Bool renaming and_eq_false_iff → zas, not_eq_true' → zau, or_eq_false_iff → zaw, not_eq_false' → zay, and_eq_true → zaz, or_eq_true → zaD
open And renaming intro → zar
-- NEWGO
-- PRUNE: cl_lendx cl_use
-- ISG: Cs_isG
-- FLAT: Cs_flat
namespace Go.Proofs.Ytcnilpdlcmpbbaa
set_option linter.unusedVariables false
set_option linter.unusedSimpArgs false
open Go.Proofs.Ytcnilpdlcmpbbaa.Sh
set_option maxRecDepth 20000
structure QK (Q : Pl → Prop) : Prop where
  sp : ∀ x (cpu : Int), pck x = true → 0 ≤ cpu ∧ cpu < x.c.length → Q x → Q (spF cpu x)
  rf : ∀ x due, pck x = true → Q x → Q (rfF due x)
theorem QK.sp' {Q : Pl → Prop} (hQ : QK Q) {l : List Nd} {n : Int} {P : List Pl} {c : Int} (hP : Pv l n P c) (h : ∀ x ∈ P, Q x) {g cpu : Int} (he : (thSp l n P g cpu).2 = 0 ∨ (thSp l n P g cpu).2 = 11) : ∀ x ∈ (thSp l n P g cpu).1, Q x := by
  unfold thSp at he ⊢
  rw [if_neg (by simp [hP.ok])] at he ⊢
  split at he
  · simp at he
  rename_i h1
  rw [if_neg h1]
  split at he
  · simp at he
  rename_i h2
  rw [if_neg h2]
  rw [Bool.not_eq_false, wi_iff] at h2
  have h0 := hP.c 0 (by rw [hP.len]; exact hP.vt.ne)
  have hx : ∀ x ∈ P, Q (spF cpu x) := fun x hx => by
    obtain ⟨i, hi, rfl⟩ := gP_mem P x hx
    exact hQ.sp _ cpu (hP.pck hi) (by have := hP.c i hi; omega) (h _ hx)
  split
  all_goals
    intro y hy
    obtain ⟨x, hm, rfl⟩ := List.mem_map.1 hy
    split
    · exact hx x hm
    · exact h x hm
theorem QK.rf' {Q : Pl → Prop} (hQ : QK Q) {l : List Nd} {n : Int} {P : List Pl} {c : Int} (hP : Pv l n P c) (h : ∀ x ∈ P, Q x) (due : List Int) : ∀ x ∈ thRf l n P due, Q x := by
  unfold thRf
  rw [if_pos hP.ok]
  intro y hy
  obtain ⟨x, hm, rfl⟩ := List.mem_map.1 hy
  exact hQ.rf x due (hP.all x hm) (h x hm)
theorem QK.plL {Q : Pl → Prop} (hQ : QK Q) {D : List Int} {l : List Nd} {n c : Int} : ∀ (m : Nat) {s : List Pl × Nat}, Pv l n s.1 c → (∀ x ∈ s.1, Q x) → ∀ x ∈ (plL D l n c m s).1, Q x
  | 0, s, h, hs => hs
  | m + 1, s, h, hs => by
    rw [Go.Proofs.Ytcnilpdlcmpbbaa.plL]
    have h1 := plP_ok (D := D) (s := s) h
    have h2 : ∀ x ∈ plP D l n c s, Q x := by
      unfold plP
      split
      · rename_i e; exact hQ.sp' h hs (.inl e)
      · exact hs
    have h3 : ∀ x ∈ (plS D l n c s).1, Q x := by
      unfold plS
      split
      · exact hQ.rf' h1 h2 _
      · exact h2
    exact hQ.plL m (plS_ok h) h3
theorem spF_s {x : Pl} {cpu : Int} (h : pck x = true) (hc : 0 ≤ cpu ∧ cpu < x.c.length) : (spF cpu x).s = x.s ∧ (spF cpu x).q = x.q ∧ (spF cpu x).b = x.b := by
  unfold spF pspend
  rw [if_neg (fun q => q (pchk_in h hc))]
  repeat' split
  all_goals exact ⟨rfl, rfl, rfl⟩
theorem rfF_s {x : Pl} {due : List Int} (h : pck x = true) : (rfF due x).s = x.s ∧ (rfF due x).q = x.q ∧ (rfF due x).b = x.b := by
  unfold rfF
  split
  · rename_i h2
    have h3 := h2.1
    unfold prefill at h3 ⊢
    rw [if_neg (by simp [h])] at h3 ⊢
    split at h3
    · cases h3
    · rename_i h4; rw [if_neg h4]; exact ⟨rfl, rfl, rfl⟩
  · exact ⟨rfl, rfl, rfl⟩
def Smq (s : Int) (x : Pl) : Prop := x.s = s ∧ (x.q = 4611686018427387904 ∨ x.q ≤ 6) ∧ 0 ≤ x.b ∧ x.b ≤ 6
theorem qk_smq (s : Int) : QK (Smq s) := ⟨fun x cpu h hc ⟨h1, h2, h3⟩ => by
  obtain ⟨e1, e2, e3⟩ := spF_s h hc
  exact ⟨by rw [e1, h1], by rw [e2]; exact h2, by rw [e3]; exact h3⟩, fun x due h ⟨h1, h2, h3⟩ => by
  obtain ⟨e1, e2, e3⟩ := rfF_s (due := due) h
  exact ⟨by rw [e1, h1], by rw [e2]; exact h2, by rw [e3]; exact h3⟩⟩
theorem nuS_q (D : List Int) (j : Nat) : (nuS D j).1.1 = 4611686018427387904 ∨ (nuS D j).1.1 ≤ 6 := by
  have h2 := nx_rng D (nxA D j 2) 6 (by decide)
  unfold nuS
  split
  · right; simp only; omega
  · left; rfl
theorem nuL_q (D : List Int) : ∀ (m : Nat) (s : List Int × List Int) (j : Nat), (∀ y ∈ s.1, y = 4611686018427387904 ∨ y ≤ 6) → ∀ y ∈ (nuL D m s j).1.1, y = 4611686018427387904 ∨ y ≤ 6
  | 0, s, j, h => h
  | m + 1, s, j, h => by
    rw [nuL]
    refine nuL_q D m _ _ fun y hy => ?_
    rcases List.mem_append.1 hy with hy | hy
    · exact h y hy
    · rw [List.mem_singleton.1 hy]; exact nuS_q D j
theorem mkP_q {D : List Int} {l : List Nd} {n c : Int} (hV : VT l n) (hc : 1 ≤ c ∧ c ≤ 16) (j : Nat) : ∃ s, (1 ≤ s ∧ s ≤ 3) ∧ ∀ x ∈ (mkP D l n c j).1, Smq s x := by
  have h3 := nx_rng D (plQ D l j).2 3 (by decide)
  have hN := mkNu_ok D j l.length
  have h5 := (thNw_ok hV hN (s := 1 + nxV D (plQ D l j).2 3) (by omega) hc).2.2
  have h6 := plI_ok (D := D) hV hc j
  refine ⟨1 + nxV D (plQ D l j).2 3, by omega, ?_⟩
  unfold mkP
  refine (qk_smq _).plL _ h6 fun x hx => ?_
  obtain ⟨i, hi, rfl⟩ := gP_mem _ x hx
  have hil : i < l.length := by rw [← h6.len]; exact hi
  have e := h5 i hil
  rw [show gP (plI D l c j) i = pn0 (gN l i).i ((mkNu D j l.length).1.1.getD i 0) ((mkNu D j l.length).1.2.getD i 0) (1 + nxV D (plQ D l j).2 3) c from e]
  have h7 : ∀ y ∈ (mkNu D j l.length).1.1, y = 4611686018427387904 ∨ y ≤ 6 := nuL_q D l.length ([], []) j fun y hy => by cases hy
  exact ⟨rfl, h7 _ (getD_mem _ i 0 (by rw [hN.l1]; exact hil)), hN.b _ (getD_mem _ i 0 (by rw [hN.l2]; exact hil))⟩
theorem lsN_zero : ∀ (c : List Int), (∀ i, 0 ≤ c.getD i 0) → ∀ n, lsN c 0 n = (c, 0) := fun c hc n => by
  induction n with
  | zero => rfl
  | succ n ih =>
    have h1 := hc (c.length - 1 - n)
    have : mn (c.getD (c.length - 1 - n) 0) 0 = 0 := by unfold mn; split <;> omega
    rw [lsN, ih]
    simp only [this, Int.sub_zero, set_self]
theorem pchg_self {x : Pl} (h : pck x = true) : pchange x x.q x.b = (x, 0) := by
  have h1 := (pck_iff.1 h).2.1
  have h2 := (nums h).h
  have h3 := (nums h).l
  have h4 : pov x x.q x.b = 0 := by
    unfold pov
    rw [if_neg (by show ¬ 0 < hld x - mst x; omega)]
  unfold pchange
  rw [if_neg (by simp [h]), if_neg (by simp [h1])]
  unfold pchg
  rw [h4]
  have h5 : mn x.l 0 = 0 := by unfold mn; split <;> omega
  simp only [h5, Int.sub_zero, lsN_zero x.c fun i => (pck_all h i).1]
def Qb (p : Pl) (q b : Int) : Prop := (q = p.q ∧ b = p.b) ∨ (lim p = true ∧ q = max (p.q - 1) 1 ∧ b = 0)
theorem Qb.st {p : Pl} {q b : Int} (h : Qb p q b) (hp : stl p.q p.b = true) (hq : p.q = 4611686018427387904 ∨ p.q ≤ 6) : stl q b = true := by
  rcases h with ⟨rfl, rfl⟩ | ⟨h1, rfl, rfl⟩
  · exact hp
  · rw [stl_iff] at hp ⊢
    unfold lim at h1
    have : p.q ≠ 4611686018427387904 := by simpa using h1
    right; omega
abbrev frP : Pl := ⟨0, 4, 1, 0, 0, [], 0, 0, 0, false⟩
def ppI (l : List Nd) (P : List Pl) (i : Nat) : Pl := if i < l.length then gP P i else frP
structure SyR (l : List Nd) (n : Int) (P : List Pl) (q b : List Int) (M : List Pl) (i : Nat) : Prop where
  ok : pck (gP M i) = true
  old : i < l.length → gtM P (gP M i).g = (gP P i, true) ∧ (gP M i).g ≠ n ∧ pck (gP P i) = true ∧ (if (gP P i).q = q.getD i 0 ∧ (gP P i).b = b.getD i 0 then gP M i = gP P i else hld (gP M i) = min (hld (gP P i)) (q.getD i 0 + b.getD i 0) ∧ 0 ≤ q.getD i 0 + b.getD i 0 ∧ q.getD i 0 + b.getD i 0 ≤ 1000 ∧ 0 ≤ b.getD i 0 ∧ b.getD i 0 ≤ 1000)
  new : ¬ i < l.length → (gP M i).g = n ∧ hld (gP M i) = (gP M i).q ∧ (gP M i).pe = 1
theorem gtM_no {P : List Pl} {g : Int} (h : ∀ i, i < P.length → (gP P i).g ≠ g) : gtM P g = (zpl, false) := by
  rcases gtM_ix P g with ⟨_, e⟩ | ⟨t, e1, ht, _⟩
  · exact e
  · rcases ixR_at (fun x : Pl => decide (x.g = g)) zpl P 0 with ⟨h1, _⟩ | ⟨k, h1, h2, h3, _⟩
    · omega
    · exact absurd (of_decide_eq_true h3) (h k h2)
theorem thSy_r {l : List Nd} {n n' pid : Int} {P : List Pl} {s : Int} {q b : List Int} {nm : Str} (hP : Pv l n P 2) (hV' : VT (l ++ [newN n pid nm]) n') (hs : 1 ≤ s ∧ s ≤ 3) (hq : ∀ x ∈ P, Smq s x) (h1 : q.length = l.length + 1) (h2 : b.length = l.length + 1) (hQ : ∀ i, i < l.length + 1 → Qb (ppI l P i) (q.getD i 0) (b.getD i 0)) :
    ∃ M, thSy (l ++ [newN n pid nm]) n' P q b s 2 = (M, 0) ∧ Pv (l ++ [newN n pid nm]) n' M 2 ∧ ∀ i, i < M.length → SyR l n P q b M i := by
  have hPl := hP.len
  have hVl := hV'.le
  have hlen : (l ++ [newN n pid nm]).length = l.length + 1 := by simp
  rw [hlen] at hVl
  have gNl : ∀ i, i < l.length → gN (l ++ [newN n pid nm]) i = gN l i := fun i hi => by
    simp only [gN, List.getD_eq_getElem?_getD]
    rw [List.getElem?_append_left hi]
  have gNr : gN (l ++ [newN n pid nm]) l.length = newN n pid nm := by
    simp [gN, List.getD_eq_getElem?_getD]
  have hold : ∀ i, i < l.length → syE (l ++ [newN n pid nm]) P q b s 2 i = pchange (gP P i) (q.getD i 0) (b.getD i 0) := fun i hi => by
    have hiP : i < P.length := by omega
    have hu : usb (gN l i).i s 2 (gP P i) = true := usb_iff.2 ⟨hP.g hiP, (hq _ (getD_mem P i zpl hiP)).1, hP.c i hiP, hP.pck hiP⟩
    unfold syE
    rw [gNl i hi]
    rcases ixR_at (usb (gN l i).i s 2) zpl P 0 with ⟨e1, e2⟩ | ⟨k, e1, e2, e3, _⟩
    · have := e2 (gP P i) (getD_mem P i zpl hiP)
      rw [hu] at this; cases this
    · have hk : k = i := thC_asc hP.ok e2 hiP (by rw [(usb_iff.1 e3).1, hP.g hiP])
      subst hk
      rw [e1, Nat.zero_add, if_neg (by omega), Int.toNat_natCast]
  have hnew : syE (l ++ [newN n pid nm]) P q b s 2 l.length = pnew n (q.getD l.length 0) (b.getD l.length 0) s 2 := by
    unfold syE
    rw [gNr]
    rcases ixR_at (usb n s 2) zpl P 0 with ⟨e1, e2⟩ | ⟨k, e1, e2, e3, _⟩
    · rw [if_pos (by show ixR (usb n s 2) P 0 < 0; omega)]
    · have h3 : (gP P k).g = n := (usb_iff.1 e3).1
      have h4 := hP.g e2
      have h5 := hP.vt.lt (i := k) (by omega)
      omega
  have hnr : 1 ≤ n ∧ n ≤ 2147483647 := by
    have h3 := hV'.pos (i := l.length) (by rw [hlen]; omega)
    have h4 := hV'.lt (i := l.length) (by rw [hlen]; omega)
    have h5 := hV'.mx
    rw [gNr] at h3 h4
    simp only at h3 h4
    omega
  have qN := hQ l.length (by omega)
  unfold ppI at qN
  rw [if_neg (by omega)] at qN
  have stN : stl (q.getD l.length 0) (b.getD l.length 0) = true ∧ (q.getD l.length 0) ≤ 4 := by
    refine ⟨qN.st (by decide) (by right; decide), ?_⟩
    rcases qN with ⟨e, _⟩ | ⟨_, e, _⟩
    · rw [e]; decide
    · rw [e]; decide
  obtain ⟨pE, pO⟩ := pn0_pck (g := n) hnr stN.1 (s := s) (c := 2) (by omega) (by omega)
  rw [pE] at hnew
  have hstO : ∀ i, i < l.length → stl (q.getD i 0) (b.getD i 0) = true := fun i hi => by
    have hiP : i < P.length := by omega
    have h3 := hQ i (by omega)
    unfold ppI at h3
    rw [if_pos hi] at h3
    exact h3.st (pck_iff.1 (hP.pck hiP)).2.1 (hq _ (getD_mem P i zpl hiP)).2.1
  have hoE : ∀ i, i < l.length → syE (l ++ [newN n pid nm]) P q b s 2 i = (pchg (gP P i) (q.getD i 0) (b.getD i 0), 0) := fun i hi => by
    rw [hold i hi]
    unfold pchange
    rw [if_neg (by rw [hP.pck (by omega)]; decide), if_neg (by rw [hstO i hi]; decide)]
  have hatO : ∀ i, i < l.length → gP (syN (syE (l ++ [newN n pid nm]) P q b s 2) (l.length + 1)) i = pchg (gP P i) (q.getD i 0) (b.getD i 0) := fun i hi => by
    have : gP (syN (syE (l ++ [newN n pid nm]) P q b s 2) (l.length + 1)) i = (syE (l ++ [newN n pid nm]) P q b s 2 i).1 := by
      have h9 : i < l.length + 1 := by omega
      unfold syN gP
      simp [List.getD_eq_getElem?_getD, h9]
    rw [this, hoE i hi]
  have hatN : gP (syN (syE (l ++ [newN n pid nm]) P q b s 2) (l.length + 1)) l.length = pn0 n (q.getD l.length 0) (b.getD l.length 0) s 2 := by
    have : gP (syN (syE (l ++ [newN n pid nm]) P q b s 2) (l.length + 1)) l.length = (syE (l ++ [newN n pid nm]) P q b s 2 l.length).1 := by
      unfold syN gP
      simp [List.getD_eq_getElem?_getD]
    rw [this, hnew]
  have hML := syN_len (syE (l ++ [newN n pid nm]) P q b s 2) (l.length + 1)
  have hPV : Pv (l ++ [newN n pid nm]) n' (syN (syE (l ++ [newN n pid nm]) P q b s 2) (l.length + 1)) 2 := by
    refine pv_of hV' (by rw [hML, hlen]) fun i hi => ?_
    rw [hML] at hi
    rcases Nat.lt_succ_iff_lt_or_eq.1 hi with h3 | h3
    · rw [hatO i h3, gNl i h3]
      have hiP : i < P.length := by omega
      have h4 := pchg_ok (hP.pck hiP) (hstO i h3)
      exact ⟨hP.g hiP, h4.1, by have := hP.c i hiP; simp only [pchg, lsN_len]; exact this⟩
    · subst h3
      rw [hatN, gNr]
      exact ⟨rfl, pO, by simp [pn0]⟩
  refine ⟨syN (syE (l ++ [newN n pid nm]) P q b s 2) (l.length + 1), ?_, hPV, fun i hi => ?_⟩
  · unfold thSy
    rw [(chkT_iff _ _).2 hV', decide_eq_true (by rw [h1, hlen]), decide_eq_true (by rw [h2, hlen]), if_pos (by rfl), hlen, if_pos]
    refine (allN_iff _ _).2 fun i hi => decide_eq_true ?_
    rcases Nat.lt_succ_iff_lt_or_eq.1 hi with h3 | h3
    · rw [hoE i h3]
    · rw [h3, hnew]
  · refine ⟨hPV.pck hi, fun h3 => ?_, fun h3 => ?_⟩
    · have hiP : i < P.length := by omega
      have hg : (gP (syN (syE (l ++ [newN n pid nm]) P q b s 2) (l.length + 1)) i).g = (gP P i).g := by rw [hatO i h3]; rfl
      have hpk := hP.pck hiP
      rw [hg]
      refine ⟨?_, ?_, hpk, ?_⟩
      · have hf : P.find? (fun x => decide (x.g = (gP P i).g)) = some (gP P i) := by
          rw [List.find?_eq_some_iff_getElem]
          refine ⟨decide_eq_true rfl, i, hiP, (getD_at P i zpl hiP).symm, fun j hj => ?_⟩
          have h8 : (gP P j).g ≠ (gP P i).g := fun e => by have := thC_asc hP.ok (by omega) hiP e; omega
          rw [show gP P j = P[j] from getD_at P j zpl (by omega)] at h8
          simp only [zau, decide_eq_false_iff_not]; exact h8
        unfold gtM
        rw [hf]
      · rw [hP.g hiP]; have := hP.vt.lt (i := i) h3; omega
      · rw [hatO i h3]
        split
        · rename_i e
          have h4 := pchg_self hpk
          rw [e.1, e.2] at h4
          unfold pchange at h4
          rw [if_neg (by rw [hpk]; decide), if_neg (by rw [hstO i h3]; decide)] at h4
          exact (Prod.mk.inj h4).1
        · rename_i e
          have h5 := hQ i (by omega)
          unfold ppI at h5
          rw [if_pos h3] at h5
          rcases h5 with ⟨e1, e2⟩ | ⟨hl, e1, e2⟩
          · exact absurd ⟨e1.symm, e2.symm⟩ e
          · have h6 := (pchg_ok hpk (hstO i h3)).2
            have h7 : (gP P i).q = 4611686018427387904 ∨ (gP P i).q ≤ 6 := (hq _ (getD_mem P i zpl hiP)).2.1
            have h8 := (nums hpk).st
            have hne : (gP P i).q ≠ 4611686018427387904 := by unfold lim at hl; simpa using hl
            have hm : mst { gP P i with q := q.getD i 0, b := b.getD i 0 } = q.getD i 0 + b.getD i 0 := by
              unfold mst lim
              simp only
              rw [if_pos]
              simp only [zau, decide_eq_false_iff_not]
              omega
            rw [h6]
            unfold pov
            rw [hm]
            refine ⟨?_, by omega, by omega, by omega, by omega⟩
            split <;> omega
    · have hil : i = l.length := by rw [hML] at hi; omega
      subst hil
      rw [hatN]
      refine ⟨rfl, ?_, rfl⟩
      have h3 : ∀ m, sumN (pn0 n (q.getD l.length 0) (b.getD l.length 0) s 2).c m = 0 := fun m => by
        induction m with
        | zero => rfl
        | succ m ih =>
          rw [sumN, ih]
          have : (pn0 n (q.getD l.length 0) (b.getD l.length 0) s 2).c.getD m 0 = 0 := by
            simp only [pn0, List.getD_eq_getElem?_getD, List.getElem?_replicate]
            split <;> rfl
          rw [this]; rfl
      unfold hld tot
      rw [h3]
      show (if q.getD l.length 0 = 4611686018427387904 then 0 else q.getD l.length 0) + 0 = q.getD l.length 0
      rw [if_neg (by omega)]; omega
end Go.Proofs.Ytcnilpdlcmpbbaa
-- NEWGO
-- PRUNE: cl_lendx cl_use
-- ISG: Cs_isG
-- FLAT: Cs_flat
namespace Go.Proofs.Ytcnilpdlcmpbbaa
set_option linter.unusedVariables false
set_option linter.unusedSimpArgs false
open Go.Proofs.Ytcnilpdlcmpbbaa.Sh
set_option maxRecDepth 20000
def lendS : FuncId → List Nat := fun f => if f = 9 then [0] else if f = 10 then [0] else if f = 12 then [0] else if f = 15 then [0] else []
abbrev frS : Str := [102, 114, 101, 115, 104]
theorem addM_fr {l : List Nd} {n pid : Int} {B : Nat} (h : TI l n B) (hg : hasM l n pid = true) : (addM l n pid frS).2.2 = 0 ∨ (addM l n pid frS).2.2 = 7 := by
  unfold addM
  rw [(hasM_iff.1 hg).1, if_neg (by decide), if_neg (by rw [hg]; decide), if_neg]
  · split <;> simp
  · intro hh
    obtain ⟨x, hx, e⟩ := List.any_eq_true.1 hh
    unfold same1 at e
    simp only [zaz, decide_eq_true_eq] at e
    have := h.nm x hx
    rw [e.2] at this
    exact absurd this (by decide)
theorem if_maxT (a b : Int) : (if a < b then b else a) = max a b := by split <;> omega
theorem rlimited_fr (k : Int) : FnSpec Try.prog 14 [.agg [int 0, int 4, int 1, int 0, int 0, .sc (.slice none 0 0), int 0, int 0, int 0, bool false]] [] (b1 true) [] := by
  have h := rlimited_spec frP none
  exact h.pre ⟨⟨cw_rfl _, cw_rfl _, cw_rfl _, cw_rfl _, cw_rfl _, cw_gnil, cw_rfl _, cw_rfl _, cw_rfl _, cw_rfl _, trivial⟩, trivial⟩
set_option maxHeartbeats 64000000 in
theorem syncs_spec (D : List Int) (hr : ∀ x ∈ D, -9223372036854775808 ≤ x ∧ x ≤ 9223372036854775807) : FnSpec Try.prog 3 [gi D none] [] (b1 true) [] := by
  by_cases hlen : (D.length : Int) ≤ 600
  case neg =>
    refine fnspec_of mixed TT_ok TT_cl ⟨fun _ => false, lendS, 0, fun _ => false, fun _ => false⟩ Try.func3 rfl (by kernel_rfl) rfl 205 rfl [.tmp 2] rfl ?_
    simp only [go_sem, zaa, zak, zal, zam, zan, zah, ↓reduceIte, reduceCtorEq, zad, zae, zao, zap, zaq, decide_eq_false hlen, lendS]
    repeat' (first
    | (apply cl_plain
       case hs => rfl
       case ha => (simp only [zaf, zag, prepV, prepC, idx, hpL', lookR, zaa, if_true, if_false]; rfl)
       case h => (first | exact light_spec .. | exact thsane_spec ..))
    | ((first | refine s1_id ?_ | refine swp_id ?_ | refine sops_id ?_ | refine s2_id ?_); simp only [decide_eq_false hlen, lendS, go_sem, zaa, zak, zal, zam, zan, zah, ↓reduceIte, reduceCtorEq, zad, zae, zao, zap, zaq, SV.ren, SV.renL, Cell.ren, Row.ren, renO, bk, back, outUpsFrom, Ints_ren])
    | exact fs_nil trivial rfl
    | fail)
  have hl : D.length ≤ 600 := by omega
  have t1 := tree_spec D hl hr 0 6 (by decide)
  have hti := mkT_ok D 0 6
  generalize mkT D 0 6 = T at *
  obtain ⟨⟨l, n⟩, j1⟩ := T
  simp only at t1 hti
  have hV := hti.v.vt
  have hle := hti.len
  have hlb := hti.b
  have hnl := nd_len l
  have p1 := mkpools_spec D hl hr j1 l n 2 hV hti.nr (by omega)
  have hP := mkP_ok (D := D) hV (c := 2) (by omega) j1
  obtain ⟨sl, hsl, hSq⟩ := mkP_q (D := D) hV (c := 2) (by omega) j1
  generalize mkP D l n 2 j1 = qq at *
  obtain ⟨P, j3⟩ := qq
  simp only at p1 hP hSq
  have n2 := next_spec D j3 l.length hl hr (by omega)
  have r2 := nx_rng D j3 l.length (by omega)
  obtain ⟨t, ht⟩ : ∃ t : Nat, nxV D j3 l.length = t := ⟨(nxV D j3 l.length).toNat, by omega⟩
  rw [ht] at n2 r2
  generalize nxA D j3 l.length = j4 at *
  have hPl := hP.len
  have htl : t < l.length := by omega
  obtain ⟨g1, _⟩ := nd_f l t htl (.sc (.int .i64 0))
  have hgm : hasM l n (gN l t).i = true := hasM_iff.2 ⟨(chkT_iff l n).2 hV, gN l t, getD_mem l t zn htl, rfl⟩
  generalize (gN l t).i = pid at *
  have a1 := radd_spec l none n pid frS (by omega) hti.nr (by decide)
  have ae := addM_fr hti hgm
  have aok := fun h => addM_ok (l := l) (n := n) (p := pid) (s := frS) h
  generalize addM l n pid frS = A at *
  obtain ⟨⟨K, n'⟩, idn, e⟩ := A
  simp only [adV] at a1
  simp only at ae aok
  by_cases he : e = 0
  case neg =>
    have he7 : e = 7 := ae.resolve_left he
    refine fnspec_of mixed TT_ok TT_cl ⟨fun _ => false, lendS, 0, fun _ => false, fun _ => false⟩ Try.func3 rfl (by kernel_rfl) rfl 205 rfl [.tmp 2] rfl ?_
    simp only [go_sem, zaa, zak, zal, zam, zan, zah, ↓reduceIte, reduceCtorEq, zad, zae, zao, zap, zaq, decide_eq_true hlen, lendS, ht, g1, decide_eq_false he, decide_eq_true he7]
    repeat' (first
    | with_reducible refine zar ?_ ?_
    | (unfold OKC; kernel_rfl)
    | (unfold EDG; kernel_rfl)
    | (apply cg_tp
       case hl => rfl
       case ha => (simp only [zaf, zag, prepV, prepC, idx, hpL', lookR, zaa, if_true, if_false]; rfl)
       case hs => rfl
       case h => (first | exact light_spec .. | exact roll_spec .. | exact t1 .. | exact p1 .. | exact n2 .. | exact a1 .. | exact thsane_spec ..))
    | (apply cl_plain
       case hs => rfl
       case ha => (simp only [zaf, zag, prepV, prepC, idx, hpL', lookR, zaa, if_true, if_false]; rfl)
       case h => (first | exact light_spec .. | exact roll_spec .. | exact t1 .. | exact p1 .. | exact n2 .. | exact a1 .. | exact thsane_spec ..))
    | (apply cl_lend
       case hr => (simp only [zaf, zag, hpL', lookR, zaa, if_true, if_false]; first | exact map1 _ | exact map2 _ _ | exact map3 _ _ _)
       case ha => (simp only [zaf, zag, prepV, prepC, idx, hpL', lookR, zaa, if_true, if_false]; rfl)
       case hs => rfl
       case hn => decide
       case h => (first | exact light_spec .. | exact roll_spec .. | exact t1 .. | exact p1 .. | exact n2 .. | exact a1 .. | exact thsane_spec ..)
       case hf => (simp only [zab, zac, false_implies, implies_true, and_true, true_and, flat_cons, flat_nil, flat_ints, flat_bools, flat_app, Cs_flat, Cell.refs, and_self, eq_self_iff_true, zai])
       case hl => (simp only [zav, zax]; decide))
    | ((first | refine s1_id ?_ | refine swp_id ?_ | refine sops_id ?_ | refine s2_id ?_); simp only [decide_eq_true hlen, lendS, dice, ht, g1, decide_eq_false he, decide_eq_true he7, go_sem, zaa, zak, zal, zam, zan, zah, ↓reduceIte, reduceCtorEq, zad, zae, zao, zap, zaq, SV.ren, SV.renL, Cell.ren, Row.ren, renO, bk, back, outUpsFrom, Ints_ren])
    | (intros; omega)
    | exact fs_nil trivial rfl
    | fail)
  obtain ⟨eA, _, b1x, b2x, b3x, b4x, b5x, b6x⟩ := aok he
  clear aok ae
  obtain ⟨eA1, eA2⟩ := Prod.mk.inj eA
  obtain ⟨eK, en'⟩ := Prod.mk.inj eA1
  obtain ⟨eid, _⟩ := Prod.mk.inj eA2
  have hVK : VT K n' := by rw [eK, en']; exact (hti.v.add b1x b2x b3x b4x b5x b6x).vt
  have hKn : NmR K := fun x hx => by
    rw [eK] at hx
    rcases List.mem_append.1 hx with hx | hx
    · exact hti.nr x hx
    · rw [List.mem_singleton.1 hx]; show (5 : Nat) ≤ 1000000000; decide
  have hKl : K.length = l.length + 1 := by rw [eK]; simp
  have hKi : ∀ i, i < l.length → (gN K i).i = (gN l i).i := fun i hi => by
    rw [eK]
    simp only [gN, List.getD_eq_getElem?_getD]
    rw [List.getElem?_append_left hi]
  have hKn' : (gN K l.length).i = n := by
    rw [eK]
    simp [gN, List.getD_eq_getElem?_getD]
  subst eid
  have hSy := fun q b h1 h2 h3 => thSy_r (q := q) (b := b) hP (by rw [← eK]; exact hVK) hsl hSq h1 h2 h3
  rw [← eK] at hSy
  have hKp := nd_len K
  have hall := hP.all
  have hPg : ∀ i, i < l.length → gtM P (gN K i).i = (gP P i, true) := fun i hi => by
    have hiP : i < P.length := by omega
    rw [hKi i hi, ← hP.g hiP]
    have hf : P.find? (fun x => decide (x.g = (gP P i).g)) = some (gP P i) := by
      rw [List.find?_eq_some_iff_getElem]
      refine ⟨decide_eq_true rfl, i, hiP, (getD_at P i zpl hiP).symm, fun j hj => ?_⟩
      have h8 : (gP P j).g ≠ (gP P i).g := fun e => by have := thC_asc hP.ok (by omega) hiP e; omega
      rw [show gP P j = P[j] from getD_at P j zpl (by omega)] at h8
      simp only [zau, decide_eq_false_iff_not]; exact h8
    unfold gtM
    rw [hf]
  have hPn : gtM P (gN K l.length).i = (zpl, false) := by
    rw [hKn']
    refine gtM_no fun i hi e => ?_
    have h1 := hP.g hi
    have h2 := hV.lt (i := i) (by omega)
    omega
  have gP0 : (gP P 0).s = sl := (hSq _ (getD_mem P 0 zpl (by omega))).1
  have hpl := pl_len P
  have hctK : CtR K := hVK.ctr
  clear b1x b2x b3x b4x b5x b6x eK
  refine fnspec_of mixed TT_ok TT_cl ⟨fun _ => false, lendS, 0 , fun i => if i = 75 then true else false, fun i => if i = 20 then true else false⟩ Try.func3 rfl (by kernel_rfl) rfl 205 rfl [.tmp 2] rfl ?_
  simp only [go_sem, zaa, zak, zal, zam, zan, zah, ↓reduceIte, reduceCtorEq, zad, zae, zao, zap, zaq, decide_eq_true hlen, lendS, ht, g1, decide_eq_true he]
  repeat' (first
    | with_reducible refine zar ?_ ?_
    | (unfold OKC; kernel_rfl)
    | (unfold EDG; kernel_rfl)
    | (apply cl_plain
       case hs => rfl
       case ha => (simp only [zaf, zag, prepV, prepC, idx, hpL', lookR, zaa, if_true, if_false]; rfl)
       case h => (first | exact light_spec .. | exact roll_spec .. | exact t1 .. | exact p1 .. | exact n2 .. | exact a1 ..))
    | (apply cl_lend
       case hr => (simp only [zaf, zag, hpL', lookR, zaa, if_true, if_false]; first | exact map1 _ | exact map2 _ _ | exact map3 _ _ _)
       case ha => (simp only [zaf, zag, prepV, prepC, idx, hpL', lookR, zaa, if_true, if_false]; rfl)
       case hs => rfl
       case hn => decide
       case h => (first | exact light_spec .. | exact roll_spec .. | exact t1 .. | exact p1 .. | exact n2 .. | exact a1 ..)
       case hf => (simp only [zab, zac, false_implies, implies_true, and_true, true_and, flat_cons, flat_nil, flat_ints, flat_bools, flat_app, Cs_flat, Cell.refs, and_self, eq_self_iff_true, zai])
       case hl => (simp only [zav, zax]; decide))
    | ((first | refine s1_id ?_ | refine swp_id ?_ | refine sops_id ?_ | refine s2_id ?_); simp only [decide_eq_true hlen, lendS, dice, ht, g1, decide_eq_true he, go_sem, zaa, zak, zal, zam, zan, zah, ↓reduceIte, reduceCtorEq, zad, zae, zao, zap, zaq, SV.ren, SV.renL, Cell.ren, Row.ren, renO, bk, back, outUpsFrom, Ints_ren])
    | (intros; omega)
    | (intros; (try simp only [zaz, zaD, zau, zay, zas, zaw, decide_eq_true_eq, decide_eq_false_iff_not] at *); omega))
  refine w_loop (ι := Nat × (List Int × List Int) × Nat) (fun s => ⟨[(3, dp), (5, gr P none), (6, .one (.optr 1 0)), (7, i1 idn), (9, .one (.osl 2 0 s.2.1.1.length none)), (10, .one (.osl 3 0 s.2.1.2.length none)), (55, i1 K.length), (56, i1 s.1)], [(0, some (dice D s.2.2)), (1, some ⟨[.gsl (Cs K) 0 K.length none, int n'], 2⟩), (2, some ⟨Ints s.2.1.1, 1⟩), (3, some ⟨Ints s.2.1.2, 1⟩)], 4⟩) (fun s => s.1 ≤ K.length ∧ s.2.1.1.length = s.1 ∧ s.2.1.2.length = s.1 ∧ ∀ i, i < s.1 → Qb (ppI l P i) (s.2.1.1.getD i 0) (s.2.1.2.getD i 0)) (fun s => K.length - s.1) (0, ([], []), j4) ?_ ⟨Nat.zero_le _, rfl, rfl, fun i hi => absurd hi (Nat.not_lt_zero _)⟩ ?_
  · (refine Imp.trans (imp_nilA _ _ 9 1 98 (by simp only []; omega) rfl) ?_)
    (refine Imp.trans (imp_nilA _ _ 10 1 99 (by simp only []; omega) rfl) ?_)
    (refine imp_ren _ _ _ [(0, 5, dice D j4), (1, 31, ⟨[.gsl (Cs K) 0 K.length none, int n'], 2⟩), (2, 98, ⟨[], 1⟩), (3, 99, ⟨[], 1⟩)] (by simp) (by simp) (by simp) (zat rfl) ?_ rfl (by simp only [zab, zac, false_implies, implies_true, and_true, St.hpF, lookR, zaa, if_true, if_false, ↓reduceIte, dice] <;> (repeat' apply zar) <;> (first | rfl | trivial)) (by simp only [zab, zac, false_implies, implies_true, and_true, true_and, flat_cons, flat_nil, flat_ints, flat_bools, flat_app, Cell.refs, and_self, eq_self_iff_true, zai, dice]); simp only [zaf, zag, zab, zac, false_implies, implies_true, and_true, lk, slot, SV.ren, Cell.ren, toN, zaa, if_true, if_false, ↓reduceIte, reduceCtorEq])
    all_goals ((repeat' apply zar) <;> (first | rfl | trivial))
  clear t1 p1 n2 a1
  rintro ⟨m, ⟨q, b⟩, j0⟩ ⟨hm, hq, hb, hQ⟩
  simp only at hm hq hb hQ ⊢
  rcases Nat.lt_or_ge m K.length with hlt | hge
  case inl =>
    have c : (m : Int) < (K.length : Int) := by omega
    obtain ⟨k1, _⟩ := nd_f K m hlt (.sc (.int .i64 0))
    have h1 := rgetP_spec P none (gN K m).i (by omega) (fun x hx => pck_len (hall x hx))
    have htq : List.take m (Ints q) = Ints q := List.take_of_length_le (by rw [Ints_length]; omega)
    have htb : List.take m (Ints b) = Ints b := List.take_of_length_le (by rw [Ints_length]; omega)
    have hpp : ∀ (l : List Int) (y : Int), Ints l ++ [int y] = Ints (l ++ [y]) := fun l y => by simp [Ints]
    have hla : ∀ (l : List Int) (y : Int), l.length = m → (l ++ [y]).length = m + 1 := fun l y h => by simp [h]
    have hQ' : ∀ q1 b1, Qb (ppI l P m) q1 b1 → ∀ i, i < m + 1 → Qb (ppI l P i) ((q ++ [q1]).getD i 0) ((b ++ [b1]).getD i 0) := fun q1 b1 h i hi => by
      rw [getD_snoc _ _ m i hq, getD_snoc _ _ m i hb]
      by_cases e : i = m
      · rw [if_pos e, if_pos e, e]; exact h
      · rw [if_neg e, if_neg e]; exact hQ i (by omega)
    have nb := bool_spec D j0 4 hl hr (by decide)
    generalize nxA D j0 4 = j5 at *
    simp only [hq, hb]
    rcases Nat.lt_or_ge m l.length with hml | hml
    · have hg2 := hPg m hml
      have hpi : ppI l P m = gP P m := if_pos hml
      rw [hg2] at h1
      have h2 := rlimited_spec (gP P m) none
      have hqA : Qb (ppI l P m) (gP P m).q (gP P m).b := by rw [hpi]; exact .inl ⟨rfl, rfl⟩
      have hqB : lim (gP P m) = true → Qb (ppI l P m) (max ((gP P m).q - 1) 1) 0 := fun h => by rw [hpi]; exact .inr ⟨h, rfl, rfl⟩
      have hqr := (nums (hP.pck (i := m) (by omega))).st
      clear hPg hPn hSy hpi hg2 hKi hKn' gP0 hSq
      generalize ppI l P m = pp at *
      generalize lim (gP P m) = li at *
      generalize gP P m = x at *
      generalize (gN K m).i = gi' at *
      obtain ⟨a0, a1, a2, a3, a4, a5, a6, a7, a8, a9⟩ := x
      simp only [plc, plt] at h1 h2
      simp only at hqA hqB hqr
      cases li with
      | false =>
        simp only [go_sem, zaa, zak, zal, zam, zan, zah, ↓reduceIte, reduceCtorEq, zad, zae, zao, zap, zaq, decide_eq_true c, lendS, k1]
        repeat' (first
    | with_reducible refine zar ?_ ?_
    | (unfold OKC; kernel_rfl)
    | (unfold EDG; kernel_rfl)
    | (apply cl_plain
       case hs => rfl
       case ha => (simp only [zaf, zag, prepV, prepC, idx, hpL', lookR, zaa, if_true, if_false]; rfl)
       case h => (first | exact h1 .. | exact h2 ..))
    | ((first | refine s1_id ?_ | refine swp_id ?_ | refine sops_id ?_ | refine s2_id ?_); simp only [decide_eq_true c, lendS, dice, k1, htq, htb, hpp, zaE, zaF, zai, zaG, zaH, zaB, zaC, zaA, zaI, zaJ, zav, zax, go_sem, zaa, zak, zal, zam, zan, zah, ↓reduceIte, reduceCtorEq, zad, zae, zao, zap, zaq, SV.ren, SV.renL, Cell.ren, Row.ren, renO, bk, back, outUpsFrom, Ints_ren])
    | (intros; omega)
    | (intros; (try simp only [zaz, zaD, zau, zay, zas, zaw, decide_eq_true_eq, decide_eq_false_iff_not] at *); omega))
        refine le_mk (m + 1, (q ++ [a1], b ++ [a2]), j0) ?_ ⟨hlt, hla _ _ hq, hla _ _ hb, hQ' _ _ hqA⟩ (by show K.length - (m + 1) < K.length - m; omega)
        simp only [hla q _ hq, hla b _ hb]
        (refine imp_ren _ _ _ [(0, 0, dice D j0), (1, 1, ⟨[.gsl (Cs K) 0 K.length none, int n'], 2⟩), (2, 33, ⟨Ints (q ++ [a1]), 1⟩), (3, 38, ⟨Ints (b ++ [a2]), 1⟩)] (by simp) (by simp) (by simp) (zat rfl) ?_ rfl (by simp only [zab, zac, false_implies, implies_true, and_true, St.hpF, lookR, zaa, if_true, if_false, ↓reduceIte, dice] <;> (repeat' apply zar) <;> (first | rfl | trivial)) (by simp only [zab, zac, false_implies, implies_true, and_true, true_and, flat_cons, flat_nil, flat_ints, flat_bools, flat_app, Cell.refs, and_self, eq_self_iff_true, zai, dice]); simp only [zaf, zag, zab, zac, false_implies, implies_true, and_true, lk, slot, SV.ren, Cell.ren, toN, zaa, if_true, if_false, ↓reduceIte, reduceCtorEq])
        all_goals ((repeat' apply zar) <;> (first | rfl | trivial | (simp only [zaj]; done) | (simp only [zaj]; rfl) | (simp only [zaj]; trivial)))
      | true =>
        by_cases hv : nxV D j0 4 = 3
        · rw [decide_eq_true (by omega : nxV D j0 4 = 4 - 1)] at nb
          simp only [go_sem, zaa, zak, zal, zam, zan, zah, ↓reduceIte, reduceCtorEq, zad, zae, zao, zap, zaq, decide_eq_true c, lendS, k1, if_maxT]
          repeat' (first
    | with_reducible refine zar ?_ ?_
    | (unfold OKC; kernel_rfl)
    | (unfold EDG; kernel_rfl)
    | (apply cl_plain
       case hs => rfl
       case ha => (simp only [zaf, zag, prepV, prepC, idx, hpL', lookR, zaa, if_true, if_false]; rfl)
       case h => (first | exact h1 .. | exact h2 .. | exact nb ..))
    | (apply cl_lend
       case hr => (simp only [zaf, zag, hpL', lookR, zaa, if_true, if_false]; first | exact map1 _ | exact map2 _ _ | exact map3 _ _ _)
       case ha => (simp only [zaf, zag, prepV, prepC, idx, hpL', lookR, zaa, if_true, if_false]; rfl)
       case hs => rfl
       case hn => decide
       case h => (first | exact h1 .. | exact h2 .. | exact nb ..)
       case hf => (simp only [zab, zac, false_implies, implies_true, and_true, true_and, flat_cons, flat_nil, flat_ints, flat_bools, flat_app, Cs_flat, Cell.refs, and_self, eq_self_iff_true, zai])
       case hl => (simp only [zav, zax]; decide))
    | ((first | refine s1_id ?_ | refine swp_id ?_ | refine sops_id ?_ | refine s2_id ?_); simp only [decide_eq_true c, lendS, dice, k1, htq, htb, hpp, if_maxT, zaE, zaF, zai, zaG, zaH, zaB, zaC, zaA, zaI, zaJ, zav, zax, go_sem, zaa, zak, zal, zam, zan, zah, ↓reduceIte, reduceCtorEq, zad, zae, zao, zap, zaq, SV.ren, SV.renL, Cell.ren, Row.ren, renO, bk, back, outUpsFrom, Ints_ren])
    | (intros; omega)
    | (intros; (try simp only [zaz, zaD, zau, zay, zas, zaw, decide_eq_true_eq, decide_eq_false_iff_not] at *); omega))
          refine le_mk (m + 1, (q ++ [max (a1 - 1) 1], b ++ [0]), j5) ?_ ⟨hlt, hla _ _ hq, hla _ _ hb, hQ' _ _ (hqB rfl)⟩ (by show K.length - (m + 1) < K.length - m; omega)
          simp only [hla q _ hq, hla b _ hb]
          (refine imp_ren _ _ _ [(0, 0, dice D j5), (1, 1, ⟨[.gsl (Cs K) 0 K.length none, int n'], 2⟩), (2, 41, ⟨Ints (q ++ [max (a1 - 1) 1]), 1⟩), (3, 46, ⟨Ints (b ++ [0]), 1⟩)] (by simp) (by simp) (by simp) (zat rfl) ?_ rfl (by simp only [zab, zac, false_implies, implies_true, and_true, St.hpF, lookR, zaa, if_true, if_false, ↓reduceIte, dice] <;> (repeat' apply zar) <;> (first | rfl | trivial)) (by simp only [zab, zac, false_implies, implies_true, and_true, true_and, flat_cons, flat_nil, flat_ints, flat_bools, flat_app, Cell.refs, and_self, eq_self_iff_true, zai, dice]); simp only [zaf, zag, zab, zac, false_implies, implies_true, and_true, lk, slot, SV.ren, Cell.ren, toN, zaa, if_true, if_false, ↓reduceIte, reduceCtorEq])
          all_goals ((repeat' apply zar) <;> (first | rfl | trivial | (simp only [zaj]; done) | (simp only [zaj]; rfl) | (simp only [zaj]; trivial)))
        · rw [decide_eq_false (by omega : ¬ nxV D j0 4 = 4 - 1)] at nb
          simp only [go_sem, zaa, zak, zal, zam, zan, zah, ↓reduceIte, reduceCtorEq, zad, zae, zao, zap, zaq, decide_eq_true c, lendS, k1]
          repeat' (first
    | with_reducible refine zar ?_ ?_
    | (unfold OKC; kernel_rfl)
    | (unfold EDG; kernel_rfl)
    | (apply cl_plain
       case hs => rfl
       case ha => (simp only [zaf, zag, prepV, prepC, idx, hpL', lookR, zaa, if_true, if_false]; rfl)
       case h => (first | exact h1 .. | exact h2 .. | exact nb ..))
    | (apply cl_lend
       case hr => (simp only [zaf, zag, hpL', lookR, zaa, if_true, if_false]; first | exact map1 _ | exact map2 _ _ | exact map3 _ _ _)
       case ha => (simp only [zaf, zag, prepV, prepC, idx, hpL', lookR, zaa, if_true, if_false]; rfl)
       case hs => rfl
       case hn => decide
       case h => (first | exact h1 .. | exact h2 .. | exact nb ..)
       case hf => (simp only [zab, zac, false_implies, implies_true, and_true, true_and, flat_cons, flat_nil, flat_ints, flat_bools, flat_app, Cs_flat, Cell.refs, and_self, eq_self_iff_true, zai])
       case hl => (simp only [zav, zax]; decide))
    | ((first | refine s1_id ?_ | refine swp_id ?_ | refine sops_id ?_ | refine s2_id ?_); simp only [decide_eq_true c, lendS, dice, k1, htq, htb, hpp, zaE, zaF, zai, zaG, zaH, zaB, zaC, zaA, zaI, zaJ, zav, zax, go_sem, zaa, zak, zal, zam, zan, zah, ↓reduceIte, reduceCtorEq, zad, zae, zao, zap, zaq, SV.ren, SV.renL, Cell.ren, Row.ren, renO, bk, back, outUpsFrom, Ints_ren])
    | (intros; omega)
    | (intros; (try simp only [zaz, zaD, zau, zay, zas, zaw, decide_eq_true_eq, decide_eq_false_iff_not] at *); omega))
          refine le_mk (m + 1, (q ++ [a1], b ++ [a2]), j5) ?_ ⟨hlt, hla _ _ hq, hla _ _ hb, hQ' _ _ hqA⟩ (by show K.length - (m + 1) < K.length - m; omega)
          simp only [hla q _ hq, hla b _ hb]
          (refine imp_ren _ _ _ [(0, 0, dice D j5), (1, 1, ⟨[.gsl (Cs K) 0 K.length none, int n'], 2⟩), (2, 33, ⟨Ints (q ++ [a1]), 1⟩), (3, 38, ⟨Ints (b ++ [a2]), 1⟩)] (by simp) (by simp) (by simp) (zat rfl) ?_ rfl (by simp only [zab, zac, false_implies, implies_true, and_true, St.hpF, lookR, zaa, if_true, if_false, ↓reduceIte, dice] <;> (repeat' apply zar) <;> (first | rfl | trivial)) (by simp only [zab, zac, false_implies, implies_true, and_true, true_and, flat_cons, flat_nil, flat_ints, flat_bools, flat_app, Cell.refs, and_self, eq_self_iff_true, zai, dice]); simp only [zaf, zag, zab, zac, false_implies, implies_true, and_true, lk, slot, SV.ren, Cell.ren, toN, zaa, if_true, if_false, ↓reduceIte, reduceCtorEq])
          all_goals ((repeat' apply zar) <;> (first | rfl | trivial | (simp only [zaj]; done) | (simp only [zaj]; rfl) | (simp only [zaj]; trivial)))
    · obtain rfl : m = l.length := by omega
      have hpi : ppI l P l.length = frP := if_neg (by omega)
      rw [hPn] at h1
      have h2 := rlimited_fr 0
      have hqA : Qb (ppI l P l.length) 4 1 := by rw [hpi]; exact .inl ⟨rfl, rfl⟩
      have hqB : Qb (ppI l P l.length) 3 0 := by rw [hpi]; exact .inr ⟨by decide, by decide, rfl⟩
      clear hPg hPn hSy hpi hKi hKn' gP0 hSq
      generalize ppI l P l.length = pp at *
      generalize (gN K l.length).i = gi' at *
      simp only [plc, plt] at h1
      have h34 : max ((4 : Int) - 1) 1 = 3 := by decide
      by_cases hv : nxV D j0 4 = 3
      · rw [decide_eq_true (by omega : nxV D j0 4 = 4 - 1)] at nb
        simp only [go_sem, zaa, zak, zal, zam, zan, zah, ↓reduceIte, reduceCtorEq, zad, zae, zao, zap, zaq, decide_eq_true c, lendS, k1, if_maxT, h34]
        repeat' (first
    | with_reducible refine zar ?_ ?_
    | (unfold OKC; kernel_rfl)
    | (unfold EDG; kernel_rfl)
    | (apply cl_plain
       case hs => rfl
       case ha => (simp only [zaf, zag, prepV, prepC, idx, hpL', lookR, zaa, if_true, if_false]; rfl)
       case h => (first | exact h1 .. | exact h2 .. | exact nb ..))
    | (apply cl_lend
       case hr => (simp only [zaf, zag, hpL', lookR, zaa, if_true, if_false]; first | exact map1 _ | exact map2 _ _ | exact map3 _ _ _)
       case ha => (simp only [zaf, zag, prepV, prepC, idx, hpL', lookR, zaa, if_true, if_false]; rfl)
       case hs => rfl
       case hn => decide
       case h => (first | exact h1 .. | exact h2 .. | exact nb ..)
       case hf => (simp only [zab, zac, false_implies, implies_true, and_true, true_and, flat_cons, flat_nil, flat_ints, flat_bools, flat_app, Cs_flat, Cell.refs, and_self, eq_self_iff_true, zai])
       case hl => (simp only [zav, zax]; decide))
    | ((first | refine s1_id ?_ | refine swp_id ?_ | refine sops_id ?_ | refine s2_id ?_); simp only [decide_eq_true c, lendS, dice, k1, htq, htb, hpp, if_maxT, h34, zaE, zaF, zai, zaG, zaH, zaB, zaC, zaA, zaI, zaJ, zav, zax, go_sem, zaa, zak, zal, zam, zan, zah, ↓reduceIte, reduceCtorEq, zad, zae, zao, zap, zaq, SV.ren, SV.renL, Cell.ren, Row.ren, renO, bk, back, outUpsFrom, Ints_ren])
    | (intros; omega)
    | (intros; (try simp only [zaz, zaD, zau, zay, zas, zaw, decide_eq_true_eq, decide_eq_false_iff_not] at *); omega))
        refine le_mk (l.length + 1, (q ++ [3], b ++ [0]), j5) ?_ ⟨hlt, hla _ _ hq, hla _ _ hb, hQ' _ _ hqB⟩ (by show K.length - (l.length + 1) < K.length - l.length; omega)
        simp only [hla q _ hq, hla b _ hb]
        (refine imp_ren _ _ _ [(0, 0, dice D j5), (1, 1, ⟨[.gsl (Cs K) 0 K.length none, int n'], 2⟩), (2, 43, ⟨Ints (q ++ [3]), 1⟩), (3, 48, ⟨Ints (b ++ [0]), 1⟩)] (by simp) (by simp) (by simp) (zat rfl) ?_ rfl (by simp only [zab, zac, false_implies, implies_true, and_true, St.hpF, lookR, zaa, if_true, if_false, ↓reduceIte, dice] <;> (repeat' apply zar) <;> (first | rfl | trivial)) (by simp only [zab, zac, false_implies, implies_true, and_true, true_and, flat_cons, flat_nil, flat_ints, flat_bools, flat_app, Cell.refs, and_self, eq_self_iff_true, zai, dice]); simp only [zaf, zag, zab, zac, false_implies, implies_true, and_true, lk, slot, SV.ren, Cell.ren, toN, zaa, if_true, if_false, ↓reduceIte, reduceCtorEq])
        all_goals ((repeat' apply zar) <;> (first | rfl | trivial | (simp only [zaj]; done) | (simp only [zaj]; rfl) | (simp only [zaj]; trivial)))
      · rw [decide_eq_false (by omega : ¬ nxV D j0 4 = 4 - 1)] at nb
        simp only [go_sem, zaa, zak, zal, zam, zan, zah, ↓reduceIte, reduceCtorEq, zad, zae, zao, zap, zaq, decide_eq_true c, lendS, k1]
        repeat' (first
    | with_reducible refine zar ?_ ?_
    | (unfold OKC; kernel_rfl)
    | (unfold EDG; kernel_rfl)
    | (apply cl_plain
       case hs => rfl
       case ha => (simp only [zaf, zag, prepV, prepC, idx, hpL', lookR, zaa, if_true, if_false]; rfl)
       case h => (first | exact h1 .. | exact h2 .. | exact nb ..))
    | (apply cl_lend
       case hr => (simp only [zaf, zag, hpL', lookR, zaa, if_true, if_false]; first | exact map1 _ | exact map2 _ _ | exact map3 _ _ _)
       case ha => (simp only [zaf, zag, prepV, prepC, idx, hpL', lookR, zaa, if_true, if_false]; rfl)
       case hs => rfl
       case hn => decide
       case h => (first | exact h1 .. | exact h2 .. | exact nb ..)
       case hf => (simp only [zab, zac, false_implies, implies_true, and_true, true_and, flat_cons, flat_nil, flat_ints, flat_bools, flat_app, Cs_flat, Cell.refs, and_self, eq_self_iff_true, zai])
       case hl => (simp only [zav, zax]; decide))
    | ((first | refine s1_id ?_ | refine swp_id ?_ | refine sops_id ?_ | refine s2_id ?_); simp only [decide_eq_true c, lendS, dice, k1, htq, htb, hpp, zaE, zaF, zai, zaG, zaH, zaB, zaC, zaA, zaI, zaJ, zav, zax, go_sem, zaa, zak, zal, zam, zan, zah, ↓reduceIte, reduceCtorEq, zad, zae, zao, zap, zaq, SV.ren, SV.renL, Cell.ren, Row.ren, renO, bk, back, outUpsFrom, Ints_ren])
    | (intros; omega)
    | (intros; (try simp only [zaz, zaD, zau, zay, zas, zaw, decide_eq_true_eq, decide_eq_false_iff_not] at *); omega))
        refine le_mk (l.length + 1, (q ++ [4], b ++ [1]), j5) ?_ ⟨hlt, hla _ _ hq, hla _ _ hb, hQ' _ _ hqA⟩ (by show K.length - (l.length + 1) < K.length - l.length; omega)
        simp only [hla q _ hq, hla b _ hb]
        (refine imp_ren _ _ _ [(0, 0, dice D j5), (1, 1, ⟨[.gsl (Cs K) 0 K.length none, int n'], 2⟩), (2, 35, ⟨Ints (q ++ [4]), 1⟩), (3, 40, ⟨Ints (b ++ [1]), 1⟩)] (by simp) (by simp) (by simp) (zat rfl) ?_ rfl (by simp only [zab, zac, false_implies, implies_true, and_true, St.hpF, lookR, zaa, if_true, if_false, ↓reduceIte, dice] <;> (repeat' apply zar) <;> (first | rfl | trivial)) (by simp only [zab, zac, false_implies, implies_true, and_true, true_and, flat_cons, flat_nil, flat_ints, flat_bools, flat_app, Cell.refs, and_self, eq_self_iff_true, zai, dice]); simp only [zaf, zag, zab, zac, false_implies, implies_true, and_true, lk, slot, SV.ren, Cell.ren, toN, zaa, if_true, if_false, ↓reduceIte, reduceCtorEq])
        all_goals ((repeat' apply zar) <;> (first | rfl | trivial | (simp only [zaj]; done) | (simp only [zaj]; rfl) | (simp only [zaj]; trivial)))
  case inr =>
  have c : ¬ (m : Int) < (K.length : Int) := by omega
  obtain rfl : m = K.length := by omega
  obtain ⟨M, eM, hM, hR⟩ := hSy q b (by omega) (by omega) (fun i hi => hQ i (by omega))
  have s1 := thsync_spec K n' P none q b sl 2 none none (by omega) (by omega) (by omega) (by omega) hKn hctK
  rw [eM] at s1
  have hMl := hM.len
  have hMa := hM.all
  have s2 := rthck_spec K n' M none (by omega) (by omega) hKn (fun x hx => smp_of (hMa x hx))
  rw [hM.ok] at s2
  have h03 : (Cs P).getD 3 (.sc (.int .i64 0)) = int sl := by
    have h := Cs_fld P 0 3 (.sc (.int .i64 0)) (by omega) (by decide)
    rw [Nat.zero_mul, Nat.zero_add] at h
    rw [h]
    show int (gP P 0).s = int sl
    rw [gP0]
  have hMp := pl_len M
  clear hPg hPn hSy hKi hKn' gP0 hSq eM hQ
  simp only [hq, hb]
  simp only [go_sem, zaa, zak, zal, zam, zan, zah, ↓reduceIte, reduceCtorEq, zad, zae, zao, zap, zaq, decide_eq_false c, lendS]
  repeat' (first
    | (intros; (try simp only [zaz, zaD, zau, zay, zas, zaw, decide_eq_true_eq, decide_eq_false_iff_not] at *); omega))
  refine rgt_t ⟨[(5, gr P none), (6, .one (.optr 0 0)), (7, i1 idn), (9, .one (.gsl (Ints q) 0 K.length none)), (10, .one (.gsl (Ints b) 0 K.length none))], [(0, some ⟨[.gsl (Cs K) 0 K.length none, int n'], 2⟩)], 1⟩ ?_ ?_
  · (refine Imp.trans (imp_frz _ _ 2 ⟨Ints q, 1⟩ (by simp only [St.hpF, lookR, zaa, if_true, if_false, ↓reduceIte]) (by first | exact Ints_isG _ | exact Bools_isG _ | exact Cs_isG _ | (simp [Cell.isG]; done))) ?_; simp only [frzTm, SV.frz, SV.frzL, Cell.frz, frzHp, frzO, Ints_frz, Bools_frz, zaf, zag, zaa, if_true, if_false, ↓reduceIte])
    (refine Imp.trans (imp_frz _ _ 3 ⟨Ints b, 1⟩ (by simp only [St.hpF, lookR, zaa, if_true, if_false, ↓reduceIte]) (by first | exact Ints_isG _ | exact Bools_isG _ | exact Cs_isG _ | (simp [Cell.isG]; done))) ?_; simp only [frzTm, SV.frz, SV.frzL, Cell.frz, frzHp, frzO, Ints_frz, Bools_frz, zaf, zag, zaa, if_true, if_false, ↓reduceIte])
    (refine imp_ren _ _ _ [(0, 1, ⟨[.gsl (Cs K) 0 K.length none, int n'], 2⟩)] (by simp) (by simp) (by simp) (zat rfl) ?_ rfl (by simp only [zab, zac, false_implies, implies_true, and_true, St.hpF, lookR, zaa, if_true, if_false, ↓reduceIte] <;> (repeat' apply zar) <;> (first | rfl | trivial)) (by simp only [zab, zac, false_implies, implies_true, and_true, true_and, flat_cons, flat_nil, flat_ints, flat_bools, flat_app, Cell.refs, and_self, eq_self_iff_true, zai]); simp only [zaf, zag, zab, zac, false_implies, implies_true, and_true, lk, slot, SV.ren, Cell.ren, toN, zaa, if_true, if_false, ↓reduceIte, reduceCtorEq])
    all_goals ((repeat' apply zar) <;> (first | rfl | trivial))
  have s1' : FnSpec Try.prog 16 [trV K none n', gr P none, .one (.gsl (Ints q) 0 K.length none), .one (.gsl (Ints b) 0 K.length none), i1 sl, i1 2] [] (.tup [gr M none, i1 0]) [] := by
    rw [show (Cell.gsl (Ints q) 0 K.length none) = .gsl (Ints q) 0 q.length none by rw [hq], show (Cell.gsl (Ints b) 0 K.length none) = .gsl (Ints b) 0 b.length none by rw [hb]]
    exact s1
  simp only [go_sem, zaa, zak, zal, zam, zan, zah, ↓reduceIte, reduceCtorEq, zad, zae, zao, zap, zaq, h03, lendS, Int.toNat_zero, Nat.zero_mul, Nat.zero_add]
  repeat' (first
    | with_reducible refine zar ?_ ?_
    | (unfold OKC; kernel_rfl)
    | (unfold EDG; kernel_rfl)
    | (apply cg_tp
       case hl => rfl
       case ha => (simp only [zaf, zag, prepV, prepC, idx, hpL', lookR, zaa, if_true, if_false]; rfl)
       case hs => rfl
       case h => (first | exact s1' .. | exact s2 ..))
    | (apply cl_plain
       case hs => rfl
       case ha => (simp only [zaf, zag, prepV, prepC, idx, hpL', lookR, zaa, if_true, if_false]; rfl)
       case h => (first | exact s1' .. | exact s2 ..))
    | ((first | refine s1_id ?_ | refine swp_id ?_ | refine sops_id ?_ | refine s2_id ?_); simp only [h03, lendS, Int.toNat_zero, Nat.zero_mul, Nat.zero_add, zaE, zaF, zai, zaG, zaH, zaB, zaC, zaA, zaI, zaJ, zav, zax, go_sem, zaa, zak, zal, zam, zan, zah, ↓reduceIte, reduceCtorEq, zad, zae, zao, zap, zaq, SV.ren, SV.renL, Cell.ren, Row.ren, renO, bk, back, outUpsFrom, Ints_ren])
    | (intros; omega)
    | (intros; (try simp only [zaz, zaD, zau, zay, zas, zaw, decide_eq_true_eq, decide_eq_false_iff_not] at *); omega))
  refine w_loop (ι := Nat) (fun m => ⟨[(5, gr P none), (7, i1 idn), (9, .one (.gsl (Ints q) 0 K.length none)), (10, .one (.gsl (Ints b) 0 K.length none)), (14, gr M none), (117, i1 M.length), (118, i1 m)], [], 0⟩) (fun m => m ≤ M.length) (fun m => M.length - m) 0 ?_ (Nat.zero_le _) ?_
  · (refine imp_ren _ _ _ [] (by simp) (by simp) (by simp) (zat rfl) ?_ rfl (by simp only [zab, zac, false_implies, implies_true, and_true, St.hpF, lookR, zaa, if_true, if_false, ↓reduceIte] <;> (repeat' apply zar) <;> (first | rfl | trivial)) (by simp only [zab, zac, false_implies, implies_true, and_true, true_and, flat_cons, flat_nil, flat_ints, flat_bools, flat_app, Cell.refs, and_self, eq_self_iff_true, zai]); simp only [zaf, zag, zab, zac, false_implies, implies_true, and_true, lk, slot, SV.ren, Cell.ren, toN, zaa, if_true, if_false, ↓reduceIte, reduceCtorEq])
    all_goals ((repeat' apply zar) <;> (first | rfl | trivial))
  clear s1 s1' s2 h03
  intro m hm
  simp only at hm ⊢
  rcases Nat.lt_or_ge m M.length with hlt | hge
  case inr =>
    have c : ¬ (m : Int) < (M.length : Int) := by omega
    simp only [go_sem, zaa, zak, zal, zam, zan, zah, ↓reduceIte, reduceCtorEq, zad, zae, zao, zap, zaq, decide_eq_false c, lendS]
    repeat' (first
    | (apply cl_plain
       case hs => rfl
       case ha => (simp only [zaf, zag, prepV, prepC, idx, hpL', lookR, zaa, if_true, if_false]; rfl)
       case h => (first | exact thsane_spec ..))
    | ((first | refine s1_id ?_ | refine swp_id ?_ | refine sops_id ?_ | refine s2_id ?_); simp only [decide_eq_false c, lendS, go_sem, zaa, zak, zal, zam, zan, zah, ↓reduceIte, reduceCtorEq, zad, zae, zao, zap, zaq, SV.ren, SV.renL, Cell.ren, Row.ren, renO, bk, back, outUpsFrom, Ints_ren])
    | exact fs_nil trivial rfl
    | fail)
  have c : (m : Int) < (M.length : Int) := by omega
  have hcq : (m : Int) < (q.length : Int) := by omega
  have hcb : (m : Int) < (b.length : Int) := by omega
  obtain ⟨k1, k2, k3⟩ := hR m hlt
  have h1 := rgetP_spec P none (gP M m).g (by omega) (fun x hx => pck_len (hall x hx))
  have hT := pl_td M m hlt
  have q0 := pl_f0 M m hlt (.sc (.int .i64 0))
  have q1 : (Cs M).getD (m * 10 + 1) (.sc (.int .i64 0)) = int (gP M m).q := Cs_fld M m 1 _ hlt (by decide)
  have q7 : (Cs M).getD (m * 10 + 7) (.sc (.int .i64 0)) = int (gP M m).pe := Cs_fld M m 7 _ hlt (by decide)
  have d1 := rheld_spec (gP M m) none (sml_pck k1)
  have r1' := hld_ge k1
  have r2' := (nums k1).h
  have r3' := (nums k1).m
  rcases Nat.lt_or_ge m l.length with hml | hml
  case inr =>
    obtain ⟨e1, e2, e3⟩ := k3 (by omega)
    clear k1 k2 k3 hR
    rw [← e2] at q1
    generalize hld (gP M m) = hh at *
    generalize gtM P (gP M m).g = w at *
    obtain ⟨⟨w0, w1, w2, w3, w4, w5, w6, w7, w8, w9⟩, wb⟩ := w
    generalize gP M m = x at *
    obtain ⟨a0, a1, a2, a3, a4, a5, a6, a7, a8, a9⟩ := x
    simp only at e1 e2 e3 q0 q7
    simp only [plc, plt] at hT h1 d1
    subst e1; subst e3
    simp only [go_sem, zaa, zak, zal, zam, zan, zah, ↓reduceIte, reduceCtorEq, zad, zae, zao, zap, zaq, decide_eq_true c, lendS, hT, q0, q1, q7]
    repeat' (first
    | with_reducible refine zar ?_ ?_
    | (unfold OKC; kernel_rfl)
    | (unfold EDG; kernel_rfl)
    | (apply cl_plain
       case hs => rfl
       case ha => (simp only [zaf, zag, prepV, prepC, idx, hpL', lookR, zaa, if_true, if_false]; rfl)
       case h => (first | exact h1 .. | exact d1 ..))
    | ((first | refine s1_id ?_ | refine swp_id ?_ | refine sops_id ?_ | refine s2_id ?_); simp only [decide_eq_true c, lendS, hT, q0, q1, q7, zaE, zaF, zai, zaG, zaH, zaB, zaC, zaA, zaI, zaJ, zav, zax, go_sem, zaa, zak, zal, zam, zan, zah, ↓reduceIte, reduceCtorEq, zad, zae, zao, zap, zaq, SV.ren, SV.renL, Cell.ren, Row.ren, renO, bk, back, outUpsFrom, Ints_ren])
    | (intros; omega)
    | (intros; (try simp only [zaz, zaD, zau, zay, zas, zaw, decide_eq_true_eq, decide_eq_false_iff_not] at *); omega))
    refine le_mk (m + 1) ?_ hlt (by omega)
    (refine imp_ren _ _ _ [] (by simp) (by simp) (by simp) (zat rfl) ?_ rfl (by simp only [zab, zac, false_implies, implies_true, and_true, St.hpF, lookR, zaa, if_true, if_false, ↓reduceIte] <;> (repeat' apply zar) <;> (first | rfl | trivial)) (by simp only [zab, zac, false_implies, implies_true, and_true, true_and, flat_cons, flat_nil, flat_ints, flat_bools, flat_app, Cell.refs, and_self, eq_self_iff_true, zai]); simp only [zaf, zag, zab, zac, false_implies, implies_true, and_true, lk, slot, SV.ren, Cell.ren, toN, zaa, if_true, if_false, ↓reduceIte, reduceCtorEq])
    all_goals ((repeat' apply zar) <;> (first | rfl | trivial | (simp only [zaj]; done) | (simp only [zaj]; rfl) | (simp only [zaj]; trivial)))
  case inl =>
    obtain ⟨e1, e2, e3, e4⟩ := k2 hml
    clear k2 k3 hR
    rw [e1] at h1
    have d2 := rheld_spec (gP P m) none (sml_pck e3)
    have r4' := hld_ge e3
    have r5' := (nums e3).h
    have r6' := (nums e3).m
    have d3 := same_spec (gP P m) none none (pck_len e3)
    clear e1 k1 e3
    by_cases hqe : (gP P m).q = q.getD m 0
    · by_cases hbe : (gP P m).b = b.getD m 0
      · rw [if_pos ⟨hqe, hbe⟩] at e4
        rw [e4] at hT q0 q1 q7 d1 h1 e2 r1' r2' r3'
        clear e4
        generalize hld (gP P m) = hh at *
        generalize mst (gP P m) = mm at *
        generalize gP P m = x at *
        obtain ⟨a0, a1, a2, a3, a4, a5, a6, a7, a8, a9⟩ := x
        simp only at e2 q0 q1 q7 hqe hbe
        simp only [plc, plt] at hT h1 d1 d2 d3
        simp only [go_sem, zaa, zak, zal, zam, zan, zah, ↓reduceIte, reduceCtorEq, zad, zae, zao, zap, zaq, decide_eq_true c, lendS, hT, q0, q1, q7, decide_eq_false e2, decide_eq_true hqe, decide_eq_true hbe]
        repeat' (first
    | with_reducible refine zar ?_ ?_
    | (unfold OKC; kernel_rfl)
    | (unfold EDG; kernel_rfl)
    | (apply cl_plain
       case hs => rfl
       case ha => (simp only [zaf, zag, prepV, prepC, idx, hpL', lookR, zaa, if_true, if_false]; rfl)
       case h => (first | exact h1 .. | exact d1 .. | exact d2 .. | exact d3 ..))
    | ((first | refine s1_id ?_ | refine swp_id ?_ | refine sops_id ?_ | refine s2_id ?_); simp only [decide_eq_true c, lendS, hT, q0, q1, q7, decide_eq_false e2, decide_eq_true hqe, decide_eq_true hbe, zaE, zaF, zai, zaG, zaH, zaB, zaC, zaA, zaI, zaJ, zav, zax, go_sem, zaa, zak, zal, zam, zan, zah, ↓reduceIte, reduceCtorEq, zad, zae, zao, zap, zaq, SV.ren, SV.renL, Cell.ren, Row.ren, renO, bk, back, outUpsFrom, Ints_ren])
    | (intros; omega)
    | (intros; (try simp only [zaz, zaD, zau, zay, zas, zaw, decide_eq_true_eq, decide_eq_false_iff_not] at *); omega))
        refine le_mk (m + 1) ?_ hlt (by omega)
        (refine imp_ren _ _ _ [] (by simp) (by simp) (by simp) (zat rfl) ?_ rfl (by simp only [zab, zac, false_implies, implies_true, and_true, St.hpF, lookR, zaa, if_true, if_false, ↓reduceIte] <;> (repeat' apply zar) <;> (first | rfl | trivial)) (by simp only [zab, zac, false_implies, implies_true, and_true, true_and, flat_cons, flat_nil, flat_ints, flat_bools, flat_app, Cell.refs, and_self, eq_self_iff_true, zai]); simp only [zaf, zag, zab, zac, false_implies, implies_true, and_true, lk, slot, SV.ren, Cell.ren, toN, zaa, if_true, if_false, ↓reduceIte, reduceCtorEq])
        all_goals ((repeat' apply zar) <;> (first | rfl | trivial | (simp only [zaj]; done) | (simp only [zaj]; rfl) | (simp only [zaj]; trivial)))
      · rw [if_neg (fun h => hbe h.2)] at e4
        obtain ⟨e5, e6⟩ := e4
        generalize hld (gP P m) = hh at *
        generalize mst (gP P m) = mm at *
        generalize hld (gP M m) = h2 at *
        generalize mst (gP M m) = m2 at *
        generalize gP P m = x at *
        obtain ⟨a0, a1, a2, a3, a4, a5, a6, a7, a8, a9⟩ := x
        generalize gP M m = y at *
        obtain ⟨b0, b1, b2, b3, b4, b5, b6, b7, b8, b9⟩ := y
        simp only at e2 q0 q1 q7 hqe hbe
        simp only [plc, plt] at hT h1 d1 d2 d3
        simp only [go_sem, zaa, zak, zal, zam, zan, zah, ↓reduceIte, reduceCtorEq, zad, zae, zao, zap, zaq, decide_eq_true c, lendS, hT, q0, q1, q7, decide_eq_false e2, decide_eq_true hqe, decide_eq_false hbe, if_minT, decide_eq_true e5]
        repeat' (first
    | with_reducible refine zar ?_ ?_
    | (unfold OKC; kernel_rfl)
    | (unfold EDG; kernel_rfl)
    | (apply cl_plain
       case hs => rfl
       case ha => (simp only [zaf, zag, prepV, prepC, idx, hpL', lookR, zaa, if_true, if_false]; rfl)
       case h => (first | exact h1 .. | exact d1 .. | exact d2 .. | exact d3 ..))
    | ((first | refine s1_id ?_ | refine swp_id ?_ | refine sops_id ?_ | refine s2_id ?_); simp only [decide_eq_true c, lendS, hT, q0, q1, q7, decide_eq_false e2, decide_eq_true hqe, decide_eq_false hbe, if_minT, decide_eq_true e5, zaE, zaF, zai, zaG, zaH, zaB, zaC, zaA, zaI, zaJ, zav, zax, go_sem, zaa, zak, zal, zam, zan, zah, ↓reduceIte, reduceCtorEq, zad, zae, zao, zap, zaq, SV.ren, SV.renL, Cell.ren, Row.ren, renO, bk, back, outUpsFrom, Ints_ren])
    | (intros; omega)
    | (intros; (try simp only [zaz, zaD, zau, zay, zas, zaw, decide_eq_true_eq, decide_eq_false_iff_not] at *); omega))
        refine le_mk (m + 1) ?_ hlt (by omega)
        (refine imp_ren _ _ _ [] (by simp) (by simp) (by simp) (zat rfl) ?_ rfl (by simp only [zab, zac, false_implies, implies_true, and_true, St.hpF, lookR, zaa, if_true, if_false, ↓reduceIte] <;> (repeat' apply zar) <;> (first | rfl | trivial)) (by simp only [zab, zac, false_implies, implies_true, and_true, true_and, flat_cons, flat_nil, flat_ints, flat_bools, flat_app, Cell.refs, and_self, eq_self_iff_true, zai]); simp only [zaf, zag, zab, zac, false_implies, implies_true, and_true, lk, slot, SV.ren, Cell.ren, toN, zaa, if_true, if_false, ↓reduceIte, reduceCtorEq])
        all_goals ((repeat' apply zar) <;> (first | rfl | trivial | (simp only [zaj]; done) | (simp only [zaj]; rfl) | (simp only [zaj]; trivial)))
    · rw [if_neg (fun h => hqe h.1)] at e4
      obtain ⟨e5, e6⟩ := e4
      generalize hld (gP P m) = hh at *
      generalize mst (gP P m) = mm at *
      generalize hld (gP M m) = h2 at *
      generalize mst (gP M m) = m2 at *
      generalize gP P m = x at *
      obtain ⟨a0, a1, a2, a3, a4, a5, a6, a7, a8, a9⟩ := x
      generalize gP M m = y at *
      obtain ⟨b0, b1, b2, b3, b4, b5, b6, b7, b8, b9⟩ := y
      simp only at e2 q0 q1 q7 hqe
      simp only [plc, plt] at hT h1 d1 d2 d3
      simp only [go_sem, zaa, zak, zal, zam, zan, zah, ↓reduceIte, reduceCtorEq, zad, zae, zao, zap, zaq, decide_eq_true c, lendS, hT, q0, q1, q7, decide_eq_false e2, decide_eq_false hqe, if_minT, decide_eq_true e5]
      repeat' (first
    | with_reducible refine zar ?_ ?_
    | (unfold OKC; kernel_rfl)
    | (unfold EDG; kernel_rfl)
    | (apply cl_plain
       case hs => rfl
       case ha => (simp only [zaf, zag, prepV, prepC, idx, hpL', lookR, zaa, if_true, if_false]; rfl)
       case h => (first | exact h1 .. | exact d1 .. | exact d2 .. | exact d3 ..))
    | ((first | refine s1_id ?_ | refine swp_id ?_ | refine sops_id ?_ | refine s2_id ?_); simp only [decide_eq_true c, lendS, hT, q0, q1, q7, decide_eq_false e2, decide_eq_false hqe, if_minT, decide_eq_true e5, zaE, zaF, zai, zaG, zaH, zaB, zaC, zaA, zaI, zaJ, zav, zax, go_sem, zaa, zak, zal, zam, zan, zah, ↓reduceIte, reduceCtorEq, zad, zae, zao, zap, zaq, SV.ren, SV.renL, Cell.ren, Row.ren, renO, bk, back, outUpsFrom, Ints_ren])
    | (intros; omega)
    | (intros; (try simp only [zaz, zaD, zau, zay, zas, zaw, decide_eq_true_eq, decide_eq_false_iff_not] at *); omega))
      refine le_mk (m + 1) ?_ hlt (by omega)
      (refine imp_ren _ _ _ [] (by simp) (by simp) (by simp) (zat rfl) ?_ rfl (by simp only [zab, zac, false_implies, implies_true, and_true, St.hpF, lookR, zaa, if_true, if_false, ↓reduceIte] <;> (repeat' apply zar) <;> (first | rfl | trivial)) (by simp only [zab, zac, false_implies, implies_true, and_true, true_and, flat_cons, flat_nil, flat_ints, flat_bools, flat_app, Cell.refs, and_self, eq_self_iff_true, zai]); simp only [zaf, zag, zab, zac, false_implies, implies_true, and_true, lk, slot, SV.ren, Cell.ren, toN, zaa, if_true, if_false, ↓reduceIte, reduceCtorEq])
      all_goals ((repeat' apply zar) <;> (first | rfl | trivial | (simp only [zaj]; done) | (simp only [zaj]; rfl) | (simp only [zaj]; trivial)))
theorem syncs_main (g0 : List Cell) (s0 : GTy Try.prog 12 22 g0) : FnSpec Try.prog 3 [svOf Try.prog 22 g0] [] (b1 true) [] := by
  obtain ⟨l, rfl, hl, hr⟩ := gty_ints (n := 10) Try.underlying22 Try.underlying3 s0
  simp only [svOf, Try.underlying22, List.headD_cons]
  exact syncs_spec l hr
end Go.Proofs.Ytcnilpdlcmpbbaa
