/- Contracts of functions, told of values, on the way to SettingsLists (part 6). -/
import Derived.Test.YtcnilpdlcmpbbabSettingsListsM3
import Derived.Test.YtcnilpdlcmpbbabSettingsListsM5
import Derived.Test.YtcnilpdlcmpbbabSettingsListsM4
-- short names of the library's lemmas
open Nat renaming reduceEqDiff → zaa, reduceLeDiff → zah, reduceAdd → zai, reduceSub → zaj, reduceMul → zak, reduceLT → zan, le_of_ble_eq_true → zaE, zero_le → zaW, lt_or_ge → zaX, le_refl → zbc
open List renaming forall_mem_cons → zab, reduceReplicate → zac, map_cons → zae, not_mem_nil → zaf, map_nil → zag, append_nil → zam, getD_cons_zero → zaw, getD_cons_succ → zax, length_cons → zaz, length_nil → zaA, take_succ_cons → zaF, set_cons_zero → zaG, set_cons_succ → zaH, flatten_cons → zaI, flatten_nil → zaK, cons_append → zaL, nil_append → zaM, take_zero → zaQ, take_nil → zaS, length_map → zaV, mem_cons → zaY, take_of_length_le → zaZ, getElem_map → zba
open Int renaming cast_ofNat_Int → zad, reduceEq → zal, reduceLT → zao, reduceLE → zap, natCast_add → zaJ
open Option renaming getD_some → zaC, getD_none → zaD
open Bool renaming and_eq_false_iff → zaq, or_eq_false_iff → zar, not_eq_false' → zas, not_eq_true' → zau, and_eq_true → zav, or_eq_true → zay, true_and → zbb
open And renaming intro → zat
open Go.Proofs.Ytcnilpdlcmpbbab.Sh.Cell renaming ren → zaB, refs → zaP
open Go.Proofs.Ytcnilpdlcmpbbab.Sh.SV renaming renL → zaN, ren → zaR
open Go.Proofs.Ytcnilpdlcmpbbab.Sh.Row renaming ren → zaO
open Go.Proofs.Ytcnilpdlcmpbbab.Sh.St renaming hpF → zaT, tmF → zaU
-- NEWGO
-- PRUNE: cl_lendx cl_use cl_lend
-- ISG: Cs_isG
-- FLAT: Cs_flat
namespace Go.Proofs.Ytcnilpdlcmpbbab
set_option linter.unusedVariables false
set_option linter.unusedSimpArgs false
open Go.Proofs.Ytcnilpdlcmpbbab.Sh
set_option maxRecDepth 20000
theorem cf_cl (xs : List (Cf)) (c : Option Nat) (hl : xs.length ≤ 1000000) : FnSpec Try.prog 84 [gr xs c] [] (.one (.osl 0 0 xs.length none)) [some ⟨Cs xs, 18⟩] := by
  have hts : List.take (xs.length * 18) (Cs xs) = Cs xs := Cs_all xs _ (zbc _)
  have hil : (Cs xs).length = xs.length * 18 := Cs_len xs
  by_cases h0 : 0 < xs.length
  · refine fnspec_of mixed TT_ok TT_cl ⟨fun _ => false, fun _ => [], 0, fun _ => false, fun _ => false⟩ Try.func84 rfl (by kernel_rfl) rfl 8 rfl [.tmp 2] rfl ?_
    simp only [go_sem, zaa, zai, zaj, zak, zan, zah, ↓reduceIte, reduceCtorEq, zac, zad, zal, zao, zap, hts, hil]
    repeat' (first
 | with_reducible refine zat ?_ ?_
 | (intros; omega)
 | (intros; (try simp only [zav, zay, zau, zas, zaq, zar, decide_eq_true_eq, decide_eq_false_iff_not] at *); omega))
    (refine fs_flat [(5, ⟨Cs xs, 18⟩)] (by simp) (by simp only [zae, zag]; decide) (by simp only [go_sem, resV, resS, zaR, zaN, zaB, zaU, zaT, idx, renO, zaO, evS, slot, lookR, zaa, ↓reduceIte, reduceCtorEq, if_true, if_false, zaC, zaD, zae, zag, sLoad, readAt, readNeed, Ints_ren, Ints_length, Ints_getD, and_true, true_and, zaw, zax]; try decide) ?_ (by simp only [zab, zaf, false_implies, implies_true, and_true, zaT, lookR, zaa, if_true, if_false, ↓reduceIte, Cs_flat] <;> (repeat' apply zat) <;> (first | rfl | trivial)) (by simp only [zab, zaf, false_implies, implies_true, and_true, true_and, flat_cons, flat_nil, flat_ints, flat_bools, flat_app, zaP, and_self, eq_self_iff_true, zam, Cs_flat]) ?_ <;> (try simp only [go_sem, resV, resS, zaR, zaN, zaB, zaU, zaT, idx, renO, zaO, evS, slot, lookR, zaa, ↓reduceIte, reduceCtorEq, if_true, if_false, zaC, zaD, zae, zag, sLoad, readAt, readNeed, Ints_ren, Ints_length, Ints_getD, and_true, true_and, zaw, zax]) <;> (try rfl))
  · have hn : xs = [] := List.length_eq_zero_iff.1 (by omega)
    subst hn
    refine FnSpec.niln (FnSpec.nilrow 18 ?_) (fun ad cc => ?_)
    · refine fnspec_of mixed TT_ok TT_cl ⟨fun _ => false, fun _ => [], 0, fun _ => false, fun _ => false⟩ Try.func84 rfl (by kernel_rfl) rfl 8 rfl [.tmp 2] rfl ?_
      simp only [go_sem, zaa, zai, zaj, zak, zan, zah, ↓reduceIte, reduceCtorEq, zac, zad, zal, zao, zap]
      repeat' (first
 | exact fs_nil trivial rfl
 | fail)
    · refine fnspec_of mixed TT_ok TT_cl ⟨fun _ => false, fun _ => [], 0, fun _ => false, fun _ => false⟩ Try.func84 rfl (by kernel_rfl) rfl 8 rfl [.tmp 2] rfl ?_
      simp only [go_sem, zaa, zai, zaj, zak, zan, zah, ↓reduceIte, reduceCtorEq, zac, zad, zal, zao, zap]
      repeat' (first
 | (intros; (try simp only [zav, zay, zau, zas, zaq, zar, decide_eq_true_eq, decide_eq_false_iff_not] at *); omega))
      (refine fs_flat [(5, ⟨[], 18⟩)] (by simp) (by simp only [zae, zag]; decide) (by simp only [go_sem, resV, resS, zaR, zaN, zaB, zaU, zaT, idx, renO, zaO, evS, slot, lookR, zaa, ↓reduceIte, reduceCtorEq, if_true, if_false, zaC, zaD, zae, zag, sLoad, readAt, readNeed, Ints_ren, Ints_length, Ints_getD, and_true, true_and, zaw, zax]; try decide) ?_ (by simp only [zab, zaf, false_implies, implies_true, and_true, zaT, lookR, zaa, if_true, if_false, ↓reduceIte, Cs_flat] <;> (repeat' apply zat) <;> (first | rfl | trivial)) (by simp only [zab, zaf, false_implies, implies_true, and_true, true_and, flat_cons, flat_nil, flat_ints, flat_bools, flat_app, zaP, and_self, eq_self_iff_true, zam, Cs_flat]) ?_ <;> (try simp only [go_sem, resV, resS, zaR, zaN, zaB, zaU, zaT, idx, renO, zaO, evS, slot, lookR, zaa, ↓reduceIte, reduceCtorEq, if_true, if_false, zaC, zaD, zae, zag, sLoad, readAt, readNeed, Ints_ren, Ints_length, Ints_getD, and_true, true_and, zaw, zax]) <;> (try rfl))
theorem cf_self (L : List Cf) (i : Nat) : L.set i (gCf L i) = L := by
  by_cases h : i < L.length
  · rw [show gCf L i = L[i] from getD_at L i zcf h, List.set_getElem_self]
  · rw [List.set_eq_of_length_le (by omega)]
theorem putAt_cons (cs : List Cell) (o : Nat) (c : Cell) (r : List Cell) : putAt cs o (c :: r) = putAt (cs.set o c) (o + 1) r := rfl
theorem cf_put (L : List Cf) (i : Nat) (s : Sg) (h : i < L.length) : putAt (Cs L) (i * 18 + 1) (sgc s) = Cs (L.set i ⟨(gCf L i).g, s⟩) := by
  have h1 : putAt (Cs L) (i * 18) (int (gCf L i).g :: sgc s) = Cs (L.set i ⟨(gCf L i).g, s⟩) := Cs_set L i ⟨(gCf L i).g, s⟩ h
  have h2 : (Cs L).set (i * 18) (int (gCf L i).g) = Cs L := by
    have h3 : (Cs L).set (i * 18 + 0) (int (gCf L i).g) = Cs (L.set i (gCf L i)) := Cs_setf L i 0 (gCf L i) _ h (by decide) rfl
    rw [cf_self] at h3
    exact h3
  rw [putAt_cons, h2] at h1
  exact h1
set_option maxHeartbeats 8000000 in
theorem scfgs_own (L : List Cf) (k : Option Nat) (hl : L.length ≤ 1000000) (hr : CfR L) : FnSpec Try.prog 59 [gr L k] [] (.one (.osl 0 0 L.length none)) [some ⟨Cs L, 18⟩] := by
  have h1 := cf_cl L k hl
  have hpl := cf_len L
  refine fnspec_of mixed TT_ok TT_cl ⟨fun _ => false, fun _ => [], 0, fun _ => false, fun _ => false⟩ Try.func59 rfl (by kernel_rfl) rfl 23 rfl [.tmp 2] rfl ?_
  simp only [go_sem, zaa, zai, zaj, zak, zan, zah, ↓reduceIte, reduceCtorEq, zac, zad, zal, zao, zap]
  repeat' (first
 | (apply cl_plain
    case hs => rfl
    case ha => (simp only [zae, zag, prepV, prepC, idx, hpL', lookR, zaa, if_true, if_false]; rfl)
    case h => (first | exact h1 ..))
 | ((first | refine s1_id ?_ | refine swp_id ?_ | refine sops_id ?_ | refine s2_id ?_); simp only [go_sem, zaa, zai, zaj, zak, zan, zah, ↓reduceIte, reduceCtorEq, zac, zad, zal, zao, zap, zaR, zaN, zaB, zaO, renO, bk, back, outUpsFrom, Ints_ren])
 | (intros; (try simp only [zav, zay, zau, zas, zaq, zar, decide_eq_true_eq, decide_eq_false_iff_not] at *); omega))
  refine w_loop (ι := Nat) (fun m => ⟨[(0, .one (.osl 0 0 L.length none)), (7, i1 L.length), (8, i1 m)], [(0, some ⟨Cs L, 18⟩)], 1⟩) (fun m => m ≤ L.length) (fun m => L.length - m) 0 ?_ (zaW _) ?_
  · (refine imp_ren _ _ _ [(0, 2, ⟨Cs L, 18⟩)] (by simp) (by simp) (by simp) (zaE rfl) ?_ rfl (by simp only [zab, zaf, false_implies, implies_true, and_true, zaT, lookR, zaa, if_true, if_false, ↓reduceIte, Cs_flat] <;> (repeat' apply zat) <;> (first | rfl | trivial)) (by simp only [zab, zaf, false_implies, implies_true, and_true, true_and, flat_cons, flat_nil, flat_ints, flat_bools, flat_app, zaP, and_self, eq_self_iff_true, zam, Cs_flat]); simp only [zae, zag, zab, zaf, false_implies, implies_true, and_true, lk, slot, zaR, zaB, toN, zaa, if_true, if_false, ↓reduceIte, reduceCtorEq])
    all_goals ((repeat' apply zat) <;> (first | rfl | trivial))
  clear h1
  intro m hm
  simp only at hm ⊢
  rcases zaX m L.length with hlt | hge
  case inr =>
    have c : ¬ (m : Int) < (L.length : Int) := by omega
    simp only [go_sem, zaa, zai, zaj, zak, zan, zah, ↓reduceIte, reduceCtorEq, zac, zad, zal, zao, zap, decide_eq_false c]
    repeat' (first
 | (intros; (try simp only [zav, zay, zau, zas, zaq, zar, decide_eq_true_eq, decide_eq_false_iff_not] at *); omega))
    (refine fs_flat [(0, ⟨Cs L, 18⟩)] (by simp) (by simp only [zae, zag]; decide) (by simp only [go_sem, resV, resS, zaR, zaN, zaB, zaU, zaT, idx, renO, zaO, evS, slot, lookR, zaa, ↓reduceIte, reduceCtorEq, if_true, if_false, zaC, zaD, zae, zag, sLoad, readAt, readNeed, Ints_ren, Ints_length, Ints_getD, and_true, true_and, zaw, zax]; try decide) ?_ (by simp only [zab, zaf, false_implies, implies_true, and_true, zaT, lookR, zaa, if_true, if_false, ↓reduceIte, Cs_flat] <;> (repeat' apply zat) <;> (first | rfl | trivial)) (by simp only [zab, zaf, false_implies, implies_true, and_true, true_and, flat_cons, flat_nil, flat_ints, flat_bools, flat_app, zaP, and_self, eq_self_iff_true, zam, Cs_flat]) ?_ <;> (try simp only [go_sem, resV, resS, zaR, zaN, zaB, zaU, zaT, idx, renO, zaO, evS, slot, lookR, zaa, ↓reduceIte, reduceCtorEq, if_true, if_false, zaC, zaD, zae, zag, sLoad, readAt, readNeed, Ints_ren, Ints_length, Ints_getD, and_true, true_and, zaw, zax]) <;> (try rfl))
  have c : (m : Int) < (L.length : Int) := by omega
  have hT := cf_ts L m hlt
  have hmr := hr _ (getD_mem L m zcf hlt)
  have h2 := scp_spec (gCf L m).s hmr.1 hmr.2
  have hS := cf_put L m (gCf L m).s hlt
  rw [show (⟨(gCf L m).g, (gCf L m).s⟩ : Cf) = gCf L m from rfl, cf_self] at hS
  clear hmr
  generalize (gCf L m).s = x at *
  obtain ⟨pm, w, q, pe, b, c0, c1, cp, mm, pt, m0, m1, m2, m3, m4, mt⟩ := x
  simp only [sgc, sgt] at hT h2 hS
  simp only [go_sem, zaa, zai, zaj, zak, zan, zah, ↓reduceIte, reduceCtorEq, zac, zad, zal, zao, zap, decide_eq_true c, hT, hS]
  repeat' (first
 | with_reducible refine zat ?_ ?_
 | (apply cl_plain
    case hs => rfl
    case ha => (simp only [zae, zag, prepV, prepC, idx, hpL', lookR, zaa, if_true, if_false]; rfl)
    case h => (first | exact h2 ..))
 | ((first | refine s1_id ?_ | refine swp_id ?_ | refine sops_id ?_ | refine s2_id ?_); simp only [decide_eq_true c, hT, hS, zaI, zaK, zam, zaL, zaM, zaG, zaH, zaF, zaQ, zaS, zaz, zaA, go_sem, zaa, zai, zaj, zak, zan, zah, ↓reduceIte, reduceCtorEq, zac, zad, zal, zao, zap, zaR, zaN, zaB, zaO, renO, bk, back, outUpsFrom, Ints_ren])
 | (intros; omega)
 | (intros; (try simp only [zav, zay, zau, zas, zaq, zar, decide_eq_true_eq, decide_eq_false_iff_not] at *); omega))
  refine le_mk (m + 1) ?_ hlt (by omega)
  (refine imp_ren _ _ _ [(0, 0, ⟨Cs L, 18⟩)] (by simp) (by simp) (by simp) (zaE rfl) ?_ rfl (by simp only [zab, zaf, false_implies, implies_true, and_true, zaT, lookR, zaa, if_true, if_false, ↓reduceIte, Cs_flat] <;> (repeat' apply zat) <;> (first | rfl | trivial)) (by simp only [zab, zaf, false_implies, implies_true, and_true, true_and, flat_cons, flat_nil, flat_ints, flat_bools, flat_app, zaP, and_self, eq_self_iff_true, zam, Cs_flat]); simp only [zae, zag, zab, zaf, false_implies, implies_true, and_true, lk, slot, zaR, zaB, toN, zaa, if_true, if_false, ↓reduceIte, reduceCtorEq])
  all_goals ((repeat' apply zat) <;> (first | rfl | trivial | (simp only [zaJ]; done) | (simp only [zaJ]; rfl) | (simp only [zaJ]; trivial)))
theorem snew_spec (l : List Nd) (n : Int) (hl : l.length ≤ 1000000) (hnm : NmR l) (hct : CtR l) : FnSpec Try.prog 39 [trV l none n] [] (gr (if chkT l n = true then adF l [] else []) none) [] := by
  have h1 : FnSpec Try.prog 17 [trV l none n, .one (.sc (.slice none 0 0))] [] (gr (if chkT l n = true then adF l [] else []) none) [] := (sadj_spec l n [] none hl (zaW _) hnm hct (fun x hx => by cases hx)).pre ⟨⟨cw_rfl _, cw_rfl _, trivial⟩, cw_niln _ _, trivial⟩
  generalize (if chkT l n = true then adF l [] else []) = R at *
  have hnl := nd_len l
  refine fnspec_of mixed TT_ok TT_cl ⟨fun _ => false, fun _ => [], 0, fun _ => false, fun _ => false⟩ Try.func39 rfl (by kernel_rfl) rfl 5 rfl [.tmp 2] rfl ?_
  simp only [go_sem, zaa, zai, zaj, zak, zan, zah, ↓reduceIte, reduceCtorEq, zac, zad, zal, zao, zap]
  repeat' (first
 | (apply cl_plain
    case hs => rfl
    case ha => (simp only [zae, zag, prepV, prepC, idx, hpL', lookR, zaa, if_true, if_false]; rfl)
    case h => (first | exact h1 ..))
 | ((first | refine s1_id ?_ | refine swp_id ?_ | refine sops_id ?_ | refine s2_id ?_); simp only [go_sem, zaa, zai, zaj, zak, zan, zah, ↓reduceIte, reduceCtorEq, zac, zad, zal, zao, zap, zaR, zaN, zaB, zaO, renO, bk, back, outUpsFrom, Ints_ren])
 | exact fs_nil trivial rfl
 | fail)
theorem srnew_spec (l : List Nd) (n : Int) (hl : l.length ≤ 1000000) (hnm : NmR l) : FnSpec Try.prog 40 [trV l none n] [] (gr (if chkT l n = true then adF l [] else []) none) [] := by
  have h1 : FnSpec Try.prog 35 [trV l none n, .one (.sc (.slice none 0 0))] [] (gr (if chkT l n = true then adF l [] else []) none) [] := (sradj_spec l n [] none hl (zaW _) hnm (fun x hx => by cases hx)).pre ⟨⟨cw_rfl _, cw_rfl _, trivial⟩, cw_niln _ _, trivial⟩
  generalize (if chkT l n = true then adF l [] else []) = R at *
  have hnl := nd_len l
  refine fnspec_of mixed TT_ok TT_cl ⟨fun _ => false, fun _ => [], 0, fun _ => false, fun _ => false⟩ Try.func40 rfl (by kernel_rfl) rfl 5 rfl [.tmp 2] rfl ?_
  simp only [go_sem, zaa, zai, zaj, zak, zan, zah, ↓reduceIte, reduceCtorEq, zac, zad, zal, zao, zap]
  repeat' (first
 | (apply cl_plain
    case hs => rfl
    case ha => (simp only [zae, zag, prepV, prepC, idx, hpL', lookR, zaa, if_true, if_false]; rfl)
    case h => (first | exact h1 ..))
 | ((first | refine s1_id ?_ | refine swp_id ?_ | refine sops_id ?_ | refine s2_id ?_); simp only [go_sem, zaa, zai, zaj, zak, zan, zah, ↓reduceIte, reduceCtorEq, zac, zad, zal, zao, zap, zaR, zaN, zaB, zaO, renO, bk, back, outUpsFrom, Ints_ren])
 | exact fs_nil trivial rfl
 | fail)
def setF (L : List Cf) (g : Int) (s : Sg) : List Cf := L.map (fun x => if x.g = g then ⟨g, s⟩ else x)
def stM (l : List Nd) (n : Int) (L : List Cf) (g : Int) (s : Sg) : List Cf × Int := if fiC l n L = true then (if L.any (fun x => decide (x.g = g)) = true then (if ckS s = true then (setF L g s, 0) else ([], 3)) else ([], 4)) else ([], 1)
structure FiP (l : List Nd) (n : Int) (L : List Cf) : Prop where
  vt : VT l n
  len : L.length = l.length
  id : ∀ i, i < L.length → (gCf L i).g = (gN l i).i
  ck : ∀ i, i < L.length → ckS (gCf L i).s = true
theorem fiC_iff (l : List Nd) (n : Int) (L : List Cf) : fiC l n L = true ↔ FiP l n L := by
  unfold fiC fiOk
  simp only [zav, decide_eq_true_eq, allN_iff, chkT_iff]
  exact ⟨fun ⟨a, b, c⟩ => ⟨a, b, fun i hi => (c i hi).1, fun i hi => (c i hi).2⟩, fun ⟨a, b, c, d⟩ => ⟨a, b, fun i hi => ⟨c i hi, d i hi⟩⟩⟩
theorem FiP.inj {l : List Nd} {n : Int} {L : List Cf} (h : FiP l n L) {i j : Nat} (hi : i < L.length) (hj : j < L.length) (e : (gCf L i).g = (gCf L j).g) : i = j := by
  have hle := h.len
  rw [h.id i hi, h.id j hj] at e
  exact h.vt.asc.inj (by omega) (by omega) e
theorem setF_set {l : List Nd} {n : Int} {L : List Cf} (h : FiP l n L) {t : Nat} (ht : t < L.length) (g : Int) (s : Sg) (e : (gCf L t).g = g) : setF L g s = L.set t ⟨g, s⟩ := by
  unfold setF
  refine List.ext_getElem (by rw [zaV, List.length_set]) fun i h1 h2 => ?_
  rw [zba, List.getElem_set]
  rw [zaV] at h1
  have hi : gCf L i = L[i] := getD_at L i zcf h1
  by_cases c : t = i
  · subst c
    rw [if_pos rfl, if_pos (by rw [← hi]; exact e)]
  · rw [if_neg c, if_neg fun h5 => c (h.inj ht h1 (by rw [e, hi, h5]))]
end Go.Proofs.Ytcnilpdlcmpbbab
-- NEWGO
-- PRUNE: cl_lendx cl_use cl_lend
-- ISG: Cs_isG
-- FLAT: Cs_flat
namespace Go.Proofs.Ytcnilpdlcmpbbab
set_option linter.unusedVariables false
set_option linter.unusedSimpArgs false
open Go.Proofs.Ytcnilpdlcmpbbab.Sh
set_option maxRecDepth 20000
set_option maxHeartbeats 8000000 in
theorem sset_spec (l : List Nd) (n : Int) (L : List Cf) (k : Option Nat) (g : Int) (s : Sg) (hl : l.length ≤ 1000000) (hL : L.length ≤ 1000000) (hnm : NmR l) (hct : CtR l) (hr : CfR L) (hs : SgR s) : FnSpec Try.prog 23 [trV l none n, gr L k, i1 g, sgt s] [] (.tup [gr (stM l n L g s).1 none, i1 (stM l n L g s).2]) [] := by
  have h1 := sfits_spec l n L k hl hL hnm hct hr
  have h2 := spos_spec L k g hL
  have h3 := scheck_spec s hs.1 hs.2
  have h4 := scfgs_own L k hL hr
  have h5 := scp_spec s hs.1 hs.2
  have hpl := cf_len L
  have hnl := nd_len l
  unfold stM
  cases hf : fiC l n L with
  | false =>
    rw [hf] at h1
    rw [if_neg (by decide)]
    refine fnspec_of mixed TT_ok TT_cl ⟨fun _ => false, fun _ => [], 0, fun _ => false, fun _ => false⟩ Try.func23 rfl (by kernel_rfl) rfl 33 rfl [.tmp 8, .tmp 9] rfl ?_
    simp only [go_sem, zaa, zai, zaj, zak, zan, zah, ↓reduceIte, reduceCtorEq, zac, zad, zal, zao, zap]
    repeat' (first
 | (apply cl_plain
    case hs => rfl
    case ha => (simp only [zae, zag, prepV, prepC, idx, hpL', lookR, zaa, if_true, if_false]; rfl)
    case h => (first | exact h1 ..))
 | ((first | refine s1_id ?_ | refine swp_id ?_ | refine sops_id ?_ | refine s2_id ?_); simp only [go_sem, zaa, zai, zaj, zak, zan, zah, ↓reduceIte, reduceCtorEq, zac, zad, zal, zao, zap, zaR, zaN, zaB, zaO, renO, bk, back, outUpsFrom, Ints_ren])
 | (intros; (try simp only [zav, zay, zau, zas, zaq, zar, decide_eq_true_eq, decide_eq_false_iff_not] at *); omega))
    repeat' (first
 | exact fs_w trivial (svw_of (zat cw_gnil (zat (cw_rfl _) trivial)))
 | fail)
  | true =>
  rw [hf] at h1
  rw [if_pos rfl]
  have hp := (fiC_iff l n L).1 hf
  rcases sgF_ix L g with ⟨e1, _, e3⟩ | ⟨t, e1, ht, _, e4, _⟩
  · rw [e1] at h2
    rw [show L.any (fun x => decide (x.g = g)) = false from List.any_eq_false.2 fun x hx => by rw [decide_eq_false (e3 x hx)]; decide, if_neg (by decide)]
    refine fnspec_of mixed TT_ok TT_cl ⟨fun _ => false, fun _ => [], 0, fun _ => false, fun _ => false⟩ Try.func23 rfl (by kernel_rfl) rfl 33 rfl [.tmp 8, .tmp 9] rfl ?_
    simp only [go_sem, zaa, zai, zaj, zak, zan, zah, ↓reduceIte, reduceCtorEq, zac, zad, zal, zao, zap]
    repeat' (first
 | (apply cl_plain
    case hs => rfl
    case ha => (simp only [zae, zag, prepV, prepC, idx, hpL', lookR, zaa, if_true, if_false]; rfl)
    case h => (first | exact h1 .. | exact h2 ..))
 | ((first | refine s1_id ?_ | refine swp_id ?_ | refine sops_id ?_ | refine s2_id ?_); simp only [go_sem, zaa, zai, zaj, zak, zan, zah, ↓reduceIte, reduceCtorEq, zac, zad, zal, zao, zap, zaR, zaN, zaB, zaO, renO, bk, back, outUpsFrom, Ints_ren])
 | (intros; (try simp only [zav, zay, zau, zas, zaq, zar, decide_eq_true_eq, decide_eq_false_iff_not] at *); omega))
    repeat' (first
 | exact fs_w trivial (svw_of (zat cw_gnil (zat (cw_rfl _) trivial)))
 | fail)
  rw [e1] at h2
  rw [show L.any (fun x => decide (x.g = g)) = true from List.any_eq_true.2 ⟨gCf L t, getD_mem L t zcf ht, decide_eq_true e4⟩, if_pos rfl]
  have c : ¬ (t : Int) < 0 := by omega
  cases hc : ckS s with
  | false =>
    rw [hc] at h3
    rw [if_neg (by decide)]
    refine fnspec_of mixed TT_ok TT_cl ⟨fun _ => false, fun _ => [], 0, fun _ => false, fun _ => false⟩ Try.func23 rfl (by kernel_rfl) rfl 33 rfl [.tmp 8, .tmp 9] rfl ?_
    simp only [go_sem, zaa, zai, zaj, zak, zan, zah, ↓reduceIte, reduceCtorEq, zac, zad, zal, zao, zap, decide_eq_false c]
    repeat' (first
 | (apply cl_plain
    case hs => rfl
    case ha => (simp only [zae, zag, prepV, prepC, idx, hpL', lookR, zaa, if_true, if_false]; rfl)
    case h => (first | exact h1 .. | exact h2 .. | exact h3 ..))
 | ((first | refine s1_id ?_ | refine swp_id ?_ | refine sops_id ?_ | refine s2_id ?_); simp only [decide_eq_false c, go_sem, zaa, zai, zaj, zak, zan, zah, ↓reduceIte, reduceCtorEq, zac, zad, zal, zao, zap, zaR, zaN, zaB, zaO, renO, bk, back, outUpsFrom, Ints_ren])
 | (intros; (try simp only [zav, zay, zau, zas, zaq, zar, decide_eq_true_eq, decide_eq_false_iff_not] at *); omega))
    repeat' (first
 | exact fs_w trivial (svw_of (zat cw_gnil (zat (cw_rfl _) trivial)))
 | fail)
  | true =>
  rw [hc] at h3
  rw [if_pos rfl, setF_set hp ht g s e4]
  have hS := cf_put L t s ht
  rw [e4] at hS
  have hsl : (L.set t ⟨g, s⟩).length = L.length := List.length_set
  generalize L.set t ⟨g, s⟩ = W at *
  clear hp
  obtain ⟨pm, w, q, pe, b, c0, c1, cp, mm, pt, m0, m1, m2, m3, m4, mt⟩ := s
  simp only [sgc, sgt] at h3 h5 hS ⊢
  refine fnspec_of mixed TT_ok TT_cl ⟨fun _ => false, fun _ => [], 0, fun _ => false, fun _ => false⟩ Try.func23 rfl (by kernel_rfl) rfl 33 rfl [.tmp 8, .tmp 9] rfl ?_
  simp only [go_sem, zaa, zai, zaj, zak, zan, zah, ↓reduceIte, reduceCtorEq, zac, zad, zal, zao, zap, decide_eq_false c, hS, hsl]
  repeat' (first
 | with_reducible refine zat ?_ ?_
 | (apply cl_plain
    case hs => rfl
    case ha => (simp only [zae, zag, prepV, prepC, idx, hpL', lookR, zaa, if_true, if_false]; rfl)
    case h => (first | exact h1 .. | exact h2 .. | exact h3 .. | exact h4 .. | exact h5 ..))
 | ((first | refine s1_id ?_ | refine swp_id ?_ | refine sops_id ?_ | refine s2_id ?_); simp only [decide_eq_false c, hS, hsl, zaI, zaK, zam, zaL, zaM, zaG, zaH, zaF, zaQ, zaS, zaz, zaA, go_sem, zaa, zai, zaj, zak, zan, zah, ↓reduceIte, reduceCtorEq, zac, zad, zal, zao, zap, zaR, zaN, zaB, zaO, renO, bk, back, outUpsFrom, Ints_ren])
 | (intros; omega)
 | (intros; (try simp only [zav, zay, zau, zas, zaq, zar, decide_eq_true_eq, decide_eq_false_iff_not] at *); omega))
  rw [show gr W none = SV.one (.gsl (Cs W) 0 L.length none) from by rw [← hsl]]
  (refine fs_frz 18 ⟨Cs W, 18⟩ (by simp only [zaT, lookR, zaa, if_true, if_false, ↓reduceIte]) (by first | exact Ints_isG _ | exact Bools_isG _ | exact Cs_isG _ | (simp [Cell.isG]; done)) ?_; simp only [frzTm, SV.frz, SV.frzL, Cell.frz, frzHp, frzO, Ints_frz, Bools_frz, zae, zag, zaa, if_true, if_false, ↓reduceIte])
  repeat' (first
 | (refine fs_w ?h1 (svw_of ?h2); (case h1 => repeat' (first | exact trivial | exact rfl | exact zaE rfl | apply zat)); (case h2 => repeat' (first | ((with_reducible refine (?_ : CW _ _)); first | exact cw_gnil | exact cw_rfl _ | exact cw_niln _ _ | exact cw_cap _ _ _ _) | exact trivial | (show _ ∧ SWL _ _; apply zat) | (show _ ∧ CWL _ _; apply zat) | show CW _ _)))
 | fail)
end Go.Proofs.Ytcnilpdlcmpbbab
-- NEWGO
-- PRUNE: cl_lendx cl_use cl_lend
-- ISG: Cs_isG
-- FLAT: Cs_flat
namespace Go.Proofs.Ytcnilpdlcmpbbab
set_option linter.unusedVariables false
set_option linter.unusedSimpArgs false
open Go.Proofs.Ytcnilpdlcmpbbab.Sh
set_option maxRecDepth 20000
theorem adF_self {l : List Nd} {n : Int} {L : List Cf} (h : FiP l n L) : adF l L = L := by
  have hle := h.len
  unfold adF
  refine List.ext_getElem (by rw [zaV]; omega) fun i h1 h2 => ?_
  rw [zba]
  have hi : gCf L i = L[i] := getD_at L i zcf h2
  have hli : gN l i = l[i] := getD_at l i zn (by omega)
  have hid := h.id i h2
  rw [hli] at hid
  rcases sgF_ix L l[i].i with ⟨_, _, e3⟩ | ⟨t, _, ht, e2, e4, _⟩
  · exact absurd hid (e3 _ (getD_mem L i zcf h2))
  · have : t = i := h.inj ht h2 (by rw [e4, hid])
    subst this
    rw [e2, ← hi, ← hid]
def upS (L : List Cf) (g : Int) (s : Sg) (m : Nat) : List Cf := setF (L.take m) g s ++ L.drop m
theorem upS_len (L : List Cf) (g : Int) (s : Sg) (m : Nat) : (upS L g s m).length = L.length := by
  unfold upS setF
  rw [List.length_append, zaV, List.length_take, List.length_drop]
  omega
theorem upS_0 (L : List Cf) (g : Int) (s : Sg) : upS L g s 0 = L := rfl
theorem upS_all (L : List Cf) (g : Int) (s : Sg) : upS L g s L.length = setF L g s := by
  unfold upS
  rw [List.take_length, List.drop_length, zam]
theorem upS_at (L : List Cf) (g : Int) (s : Sg) (m : Nat) (h : m < L.length) : gCf (upS L g s m) m = gCf L m := by
  have h1 : (setF (L.take m) g s).length = m := by unfold setF; rw [zaV, List.length_take]; omega
  unfold upS
  simp only [gCf, List.getD_eq_getElem?_getD]
  rw [List.getElem?_append_right (by omega), h1, Nat.sub_self, List.getElem?_drop, Nat.add_zero]
theorem upS_succ (L : List Cf) (g : Int) (s : Sg) (m : Nat) (h : m < L.length) : upS L g s (m + 1) = (upS L g s m).set m (if (gCf L m).g = g then ⟨g, s⟩ else gCf L m) := by
  have h1 : (setF (L.take m) g s).length = m := by unfold setF; rw [zaV, List.length_take]; omega
  unfold upS
  rw [List.set_append_right _ _ (by omega), h1, Nat.sub_self, drop_getD L m zcf h, zaG, take_getD L m zcf h]
  unfold setF
  rw [List.map_append, List.append_assoc]
  rfl
set_option maxHeartbeats 8000000 in
theorem srset_spec (l : List Nd) (n : Int) (L : List Cf) (k : Option Nat) (g : Int) (s : Sg) (hl : l.length ≤ 1000000) (hL : L.length ≤ 1000000) (hnm : NmR l) (hr : CfR L) (hs : SgR s) : FnSpec Try.prog 37 [trV l none n, gr L k, i1 g, sgt s] [] (.tup [gr (stM l n L g s).1 none, i1 (stM l n L g s).2]) [] := by
  have h1 := srfits_spec l n L k hl hL hnm hr
  have h2 := rhas_spec l none n g hl hnm
  have h3 := srcheck_spec s hs.1 hs.2
  have h4 := sradj_own l n L k hl hL hnm hr
  have h5 := srcp_spec s hs.1 hs.2
  have hnl := nd_len l
  unfold stM
  cases hf : fiC l n L with
  | false =>
    rw [hf] at h1
    rw [if_neg (by decide)]
    refine fnspec_of mixed TT_ok TT_cl ⟨fun _ => false, fun _ => [], 0, fun _ => false, fun _ => false⟩ Try.func37 rfl (by kernel_rfl) rfl 49 rfl [.tmp 8, .tmp 9] rfl ?_
    simp only [go_sem, zaa, zai, zaj, zak, zan, zah, ↓reduceIte, reduceCtorEq, zac, zad, zal, zao, zap]
    repeat' (first
 | (apply cl_plain
    case hs => rfl
    case ha => (simp only [zae, zag, prepV, prepC, idx, hpL', lookR, zaa, if_true, if_false]; rfl)
    case h => (first | exact h1 ..))
 | ((first | refine s1_id ?_ | refine swp_id ?_ | refine sops_id ?_ | refine s2_id ?_); simp only [go_sem, zaa, zai, zaj, zak, zan, zah, ↓reduceIte, reduceCtorEq, zac, zad, zal, zao, zap, zaR, zaN, zaB, zaO, renO, bk, back, outUpsFrom, Ints_ren])
 | (intros; (try simp only [zav, zay, zau, zas, zaq, zar, decide_eq_true_eq, decide_eq_false_iff_not] at *); omega))
    repeat' (first
 | exact fs_w trivial (svw_of (zat cw_gnil (zat (cw_rfl _) trivial)))
 | fail)
  | true =>
  rw [hf] at h1
  rw [if_pos rfl]
  have hp := (fiC_iff l n L).1 hf
  have hck := (chkT_iff l n).2 hp.vt
  have hh : hasM l n g = L.any (fun x => decide (x.g = g)) := by
    unfold hasM
    rw [hck, zbb, Bool.eq_iff_iff, List.any_eq_true, List.any_eq_true]
    have hle := hp.len
    constructor
    · rintro ⟨x, hx, hxg⟩
      obtain ⟨i, hi, rfl⟩ := List.getElem_of_mem hx
      refine ⟨gCf L i, getD_mem L i zcf (by omega), ?_⟩
      rw [hp.id i (by omega), show gN l i = l[i] from getD_at l i zn hi]
      exact hxg
    · rintro ⟨x, hx, hxg⟩
      obtain ⟨i, hi, rfl⟩ := List.getElem_of_mem hx
      refine ⟨gN l i, getD_mem l i zn (by omega), ?_⟩
      show decide ((gN l i).i = g) = true
      rw [← hp.id i hi, show gCf L i = L[i] from getD_at L i zcf hi]
      exact hxg
  rw [hh] at h2
  rw [hck, if_pos rfl, adF_self hp] at h4
  cases ha : L.any (fun x => decide (x.g = g)) with
  | false =>
    rw [ha] at h2
    rw [if_neg (by decide)]
    refine fnspec_of mixed TT_ok TT_cl ⟨fun _ => false, fun _ => [], 0, fun _ => false, fun _ => false⟩ Try.func37 rfl (by kernel_rfl) rfl 49 rfl [.tmp 8, .tmp 9] rfl ?_
    simp only [go_sem, zaa, zai, zaj, zak, zan, zah, ↓reduceIte, reduceCtorEq, zac, zad, zal, zao, zap]
    repeat' (first
 | (apply cl_plain
    case hs => rfl
    case ha => (simp only [zae, zag, prepV, prepC, idx, hpL', lookR, zaa, if_true, if_false]; rfl)
    case h => (first | exact h1 .. | exact h2 ..))
 | ((first | refine s1_id ?_ | refine swp_id ?_ | refine sops_id ?_ | refine s2_id ?_); simp only [go_sem, zaa, zai, zaj, zak, zan, zah, ↓reduceIte, reduceCtorEq, zac, zad, zal, zao, zap, zaR, zaN, zaB, zaO, renO, bk, back, outUpsFrom, Ints_ren])
 | (intros; (try simp only [zav, zay, zau, zas, zaq, zar, decide_eq_true_eq, decide_eq_false_iff_not] at *); omega))
    repeat' (first
 | exact fs_w trivial (svw_of (zat cw_gnil (zat (cw_rfl _) trivial)))
 | fail)
  | true =>
  rw [ha] at h2
  rw [if_pos rfl]
  cases hc : ckS s with
  | false =>
    rw [hc] at h3
    rw [if_neg (by decide)]
    refine fnspec_of mixed TT_ok TT_cl ⟨fun _ => false, fun _ => [], 0, fun _ => false, fun _ => false⟩ Try.func37 rfl (by kernel_rfl) rfl 49 rfl [.tmp 8, .tmp 9] rfl ?_
    simp only [go_sem, zaa, zai, zaj, zak, zan, zah, ↓reduceIte, reduceCtorEq, zac, zad, zal, zao, zap]
    repeat' (first
 | (apply cl_plain
    case hs => rfl
    case ha => (simp only [zae, zag, prepV, prepC, idx, hpL', lookR, zaa, if_true, if_false]; rfl)
    case h => (first | exact h1 .. | exact h2 .. | exact h3 ..))
 | ((first | refine s1_id ?_ | refine swp_id ?_ | refine sops_id ?_ | refine s2_id ?_); simp only [go_sem, zaa, zai, zaj, zak, zan, zah, ↓reduceIte, reduceCtorEq, zac, zad, zal, zao, zap, zaR, zaN, zaB, zaO, renO, bk, back, outUpsFrom, Ints_ren])
 | (intros; (try simp only [zav, zay, zau, zas, zaq, zar, decide_eq_true_eq, decide_eq_false_iff_not] at *); omega))
    repeat' (first
 | exact fs_w trivial (svw_of (zat cw_gnil (zat (cw_rfl _) trivial)))
 | fail)
  | true =>
  rw [hc] at h3
  rw [if_pos rfl]
  have hpl := cf_len L
  have hu := fun m => upS_len L g s m
  have hpu := fun m => cf_len (upS L g s m)
  have hat := fun m h => upS_at L g s m h
  have hsu := fun m h => upS_succ L g s m h
  have hpt := fun m h => cf_put (upS L g s m) m s h
  have hall := upS_all L g s
  have h0 := upS_0 L g s
  have hsl : (setF L g s).length = L.length := by unfold setF; exact zaV _
  generalize setF L g s = W at *
  generalize upS L g s = U at *
  clear hp hf hc ha hh hr hs
  obtain ⟨pm, w, q, pe, b, c0, c1, cp, mm, pt, m0, m1, m2, m3, m4, mt⟩ := s
  simp only [sgc, sgt] at h3 h5 hpt ⊢
  refine fnspec_of mixed TT_ok TT_cl ⟨fun _ => false, fun _ => [], 0, fun _ => false, fun _ => false⟩ Try.func37 rfl (by kernel_rfl) rfl 49 rfl [.tmp 8, .tmp 9] rfl ?_
  simp only [go_sem, zaa, zai, zaj, zak, zan, zah, ↓reduceIte, reduceCtorEq, zac, zad, zal, zao, zap]
  repeat' (first
 | (apply cl_plain
    case hs => rfl
    case ha => (simp only [zae, zag, prepV, prepC, idx, hpL', lookR, zaa, if_true, if_false]; rfl)
    case h => (first | exact h1 .. | exact h2 .. | exact h3 .. | exact h4 ..))
 | ((first | refine s1_id ?_ | refine swp_id ?_ | refine sops_id ?_ | refine s2_id ?_); simp only [zaI, zaK, zam, zaL, zaM, zaG, zaH, zaF, zaQ, zaS, zaz, zaA, go_sem, zaa, zai, zaj, zak, zan, zah, ↓reduceIte, reduceCtorEq, zac, zad, zal, zao, zap, zaR, zaN, zaB, zaO, renO, bk, back, outUpsFrom, Ints_ren])
 | (intros; (try simp only [zav, zay, zau, zas, zaq, zar, decide_eq_true_eq, decide_eq_false_iff_not] at *); omega))
  refine w_loop (ι := Nat) (fun m => ⟨[(2, i1 g), (7, .one (.optr 1 0)), (10, .one (.osl 0 0 L.length none)), (11, i1 m)], [(0, some ⟨Cs (U m), 18⟩), (1, some ⟨[int pm, int w, int q, int pe, int b, int c0, int c1, .gsl (Ints cp) 0 cp.length none, .gsl (Ints mm) 0 mm.length none, int pt, int m0, int m1, int m2, int m3, int m4, bool mt, .gsl [] 0 0 none], 17⟩)], 2⟩) (fun m => m ≤ L.length) (fun m => L.length - m) 0 ?_ (zaW _) ?_
  · simp only [h0]
    (refine imp_ren _ _ _ [(0, 20, ⟨Cs L, 18⟩), (1, 1, ⟨[int pm, int w, int q, int pe, int b, int c0, int c1, .gsl (Ints cp) 0 cp.length none, .gsl (Ints mm) 0 mm.length none, int pt, int m0, int m1, int m2, int m3, int m4, bool mt, .gsl [] 0 0 none], 17⟩)] (by simp) (by simp) (by simp) (zaE rfl) ?_ rfl (by simp only [zab, zaf, false_implies, implies_true, and_true, zaT, lookR, zaa, if_true, if_false, ↓reduceIte, Cs_flat] <;> (repeat' apply zat) <;> (first | rfl | trivial)) (by simp only [zab, zaf, false_implies, implies_true, and_true, true_and, flat_cons, flat_nil, flat_ints, flat_bools, flat_app, zaP, and_self, eq_self_iff_true, zam, Cs_flat]); simp only [zae, zag, zab, zaf, false_implies, implies_true, and_true, lk, slot, zaR, zaB, toN, zaa, if_true, if_false, ↓reduceIte, reduceCtorEq])
    all_goals ((repeat' apply zat) <;> (first | rfl | trivial))
  clear h1 h2 h3 h4
  intro m hm
  simp only at hm ⊢
  rcases zaX m L.length with hlt | hge
  case inr =>
    have c : ¬ (m : Int) < (L.length : Int) := by omega
    obtain rfl : m = L.length := by omega
    rw [hall]
    simp only [go_sem, zaa, zai, zaj, zak, zan, zah, ↓reduceIte, reduceCtorEq, zac, zad, zal, zao, zap, decide_eq_false c]
    repeat' (first
 | (intros; (try simp only [zav, zay, zau, zas, zaq, zar, decide_eq_true_eq, decide_eq_false_iff_not] at *); omega))
    rw [show gr W none = SV.one (.gsl (Cs W) 0 L.length none) from by rw [← hsl]]
    (refine fs_frz 0 ⟨Cs W, 18⟩ (by simp only [zaT, lookR, zaa, if_true, if_false, ↓reduceIte]) (by first | exact Ints_isG _ | exact Bools_isG _ | exact Cs_isG _ | (simp [Cell.isG]; done)) ?_; simp only [frzTm, SV.frz, SV.frzL, Cell.frz, frzHp, frzO, Ints_frz, Bools_frz, zae, zag, zaa, if_true, if_false, ↓reduceIte])
    repeat' (first
 | (refine fs_w ?h1 (svw_of ?h2); (case h1 => repeat' (first | exact trivial | exact rfl | exact zaE rfl | apply zat)); (case h2 => repeat' (first | ((with_reducible refine (?_ : CW _ _)); first | exact cw_gnil | exact cw_rfl _ | exact cw_niln _ _ | exact cw_cap _ _ _ _) | exact trivial | (show _ ∧ SWL _ _; apply zat) | (show _ ∧ CWL _ _; apply zat) | show CW _ _)))
 | fail)
  have c : (m : Int) < (L.length : Int) := by omega
  have hum := hu m
  have hpm := hpu m
  have g1 := cf_f0 (U m) m (by omega) (.sc (.int .i64 0))
  have hP := hpt m (by omega)
  rw [hat m hlt] at g1 hP
  have hS := hsu m hlt
  have hself := cf_self (U m) m
  rw [hat m hlt] at hself
  generalize gCf L m = x at *
  obtain ⟨a, x'⟩ := x
  simp only at g1 hP hS hself
  by_cases hid : a = g
  · subst hid
    rw [if_pos rfl] at hS
    rw [← hS] at hP
    simp only [go_sem, zaa, zai, zaj, zak, zan, zah, ↓reduceIte, reduceCtorEq, zac, zad, zal, zao, zap, decide_eq_true c, g1, decide_true, hP]
    repeat' (first
 | with_reducible refine zat ?_ ?_
 | (apply cl_plain
    case hs => rfl
    case ha => (simp only [zae, zag, prepV, prepC, idx, hpL', lookR, zaa, if_true, if_false]; rfl)
    case h => (first | exact h5 ..))
 | ((first | refine s1_id ?_ | refine swp_id ?_ | refine sops_id ?_ | refine s2_id ?_); simp only [decide_eq_true c, g1, decide_true, hP, zaI, zaK, zam, zaL, zaM, zaG, zaH, zaF, zaQ, zaS, zaz, zaA, go_sem, zaa, zai, zaj, zak, zan, zah, ↓reduceIte, reduceCtorEq, zac, zad, zal, zao, zap, zaR, zaN, zaB, zaO, renO, bk, back, outUpsFrom, Ints_ren])
 | (intros; omega)
 | (intros; (try simp only [zav, zay, zau, zas, zaq, zar, decide_eq_true_eq, decide_eq_false_iff_not] at *); omega))
    refine le_mk (m + 1) ?_ hlt (by omega)
    (refine imp_ren _ _ _ [(0, 0, ⟨Cs (U (m + 1)), 18⟩), (1, 1, ⟨[int pm, int w, int q, int pe, int b, int c0, int c1, .gsl (Ints cp) 0 cp.length none, .gsl (Ints mm) 0 mm.length none, int pt, int m0, int m1, int m2, int m3, int m4, bool mt, .gsl [] 0 0 none], 17⟩)] (by simp) (by simp) (by simp) (zaE rfl) ?_ rfl (by simp only [zab, zaf, false_implies, implies_true, and_true, zaT, lookR, zaa, if_true, if_false, ↓reduceIte, Cs_flat] <;> (repeat' apply zat) <;> (first | rfl | trivial)) (by simp only [zab, zaf, false_implies, implies_true, and_true, true_and, flat_cons, flat_nil, flat_ints, flat_bools, flat_app, zaP, and_self, eq_self_iff_true, zam, Cs_flat]); simp only [zae, zag, zab, zaf, false_implies, implies_true, and_true, lk, slot, zaR, zaB, toN, zaa, if_true, if_false, ↓reduceIte, reduceCtorEq])
    all_goals ((repeat' apply zat) <;> (first | rfl | trivial | (simp only [zaJ]; done) | (simp only [zaJ]; rfl) | (simp only [zaJ]; trivial)))
  · rw [if_neg hid, hself] at hS
    simp only [go_sem, zaa, zai, zaj, zak, zan, zah, ↓reduceIte, reduceCtorEq, zac, zad, zal, zao, zap, decide_eq_true c, g1, decide_eq_false hid]
    repeat' (first
 | with_reducible refine zat ?_ ?_
 | (intros; omega)
 | (intros; (try simp only [zav, zay, zau, zas, zaq, zar, decide_eq_true_eq, decide_eq_false_iff_not] at *); omega))
    refine le_mk (m + 1) ?_ hlt (by omega)
    rw [hS]
    (refine imp_ren _ _ _ [(0, 0, ⟨Cs (U m), 18⟩), (1, 1, ⟨[int pm, int w, int q, int pe, int b, int c0, int c1, .gsl (Ints cp) 0 cp.length none, .gsl (Ints mm) 0 mm.length none, int pt, int m0, int m1, int m2, int m3, int m4, bool mt, .gsl [] 0 0 none], 17⟩)] (by simp) (by simp) (by simp) (zaE rfl) ?_ rfl (by simp only [zab, zaf, false_implies, implies_true, and_true, zaT, lookR, zaa, if_true, if_false, ↓reduceIte, Cs_flat] <;> (repeat' apply zat) <;> (first | rfl | trivial)) (by simp only [zab, zaf, false_implies, implies_true, and_true, true_and, flat_cons, flat_nil, flat_ints, flat_bools, flat_app, zaP, and_self, eq_self_iff_true, zam, Cs_flat]); simp only [zae, zag, zab, zaf, false_implies, implies_true, and_true, lk, slot, zaR, zaB, toN, zaa, if_true, if_false, ↓reduceIte, reduceCtorEq])
    all_goals ((repeat' apply zat) <;> (first | rfl | trivial | (simp only [zaJ]; done) | (simp only [zaJ]; rfl) | (simp only [zaJ]; trivial)))
end Go.Proofs.Ytcnilpdlcmpbbab
-- NEWGO
-- PRUNE: cl_lendx cl_use cl_lend
-- ISG: Cs_isG
-- FLAT: Cs_flat
namespace Go.Proofs.Ytcnilpdlcmpbbab
set_option linter.unusedVariables false
set_option linter.unusedSimpArgs false
open Go.Proofs.Ytcnilpdlcmpbbab.Sh
set_option maxRecDepth 20000
theorem if_minS (a b : Int) : (if b < a then b else a) = min a b := by split <;> omega
theorem upR_mem : ∀ (l : List Nd) (g a : Int), a ∈ upR l g → ∃ x ∈ l, x.i = a
  | [], _, _, h => by cases h
  | x :: r, g, a, h => by
    unfold upR at h
    split at h
    · rename_i e
      rcases List.mem_cons.1 h with rfl | h
      · exact ⟨x, List.mem_cons_self, e⟩
      · obtain ⟨y, hy, e2⟩ := upR_mem r x.p a h
        exact ⟨y, List.mem_cons_of_mem _ hy, e2⟩
    · obtain ⟨y, hy, e2⟩ := upR_mem r g a h
      exact ⟨y, List.mem_cons_of_mem _ hy, e2⟩
theorem upR_hd : ∀ (l : List Nd) (g : Int), upR l g = [] ∨ ∃ r, upR l g = g :: r
  | [], _ => .inl rfl
  | x :: r, g => by
    unfold upR
    split
    · exact .inr ⟨_, rfl⟩
    · exact upR_hd r g
theorem anc_mem {l : List Nd} {n g a : Int} (h : a ∈ ancM l n g) : ∃ x ∈ l, x.i = a := by
  unfold ancM at h
  split at h
  · obtain ⟨x, hx, e⟩ := upR_mem _ _ _ h
    exact ⟨x, List.mem_reverse.1 hx, e⟩
  · cases h
theorem anc_hd (l : List Nd) (n g : Int) : ancM l n g = [] ∨ ∃ r, ancM l n g = g :: r := by
  unfold ancM
  split
  · exact upR_hd _ _
  · exact .inl rfl
def limF (x y : Sg) : Sg := ⟨min x.pm y.pm, x.w, min x.q y.q, x.pe, x.b, x.c0, min x.c1 y.c1, x.cp, x.mm, x.pt, x.m0, x.m1, x.m2, x.m3, x.m4, x.mt⟩
def lowL (L : List Cf) (U : List Int) (s : Sg) : Sg := U.foldl (fun s a => limF s (sgF L a)) s
def finF (x : Sg) : Sg := ⟨x.pm, x.w, x.q, x.pe, x.b, min x.c0 x.c1, x.c1, x.cp, x.mm, x.pt, x.m0, x.m1, x.m2, x.m3, x.m4, x.mt⟩
def lwM (l : List Nd) (n : Int) (L : List Cf) (g : Int) : Sg := if fiC l n L = true ∧ (ancM l n g).length ≠ 0 then finF (lowL L (ancM l n g) (sgF L g)) else zsg
theorem lowL_take (L : List Cf) (U : List Int) (s : Sg) (m : Nat) (h : m < U.length) : lowL L (U.take (m + 1)) s = limF (lowL L (U.take m) s) (sgF L (U.getD m 0)) := by
  unfold lowL
  rw [take_getD U m 0 h, List.foldl_append]; rfl
theorem lowL_hd (L : List Cf) (g : Int) (r : List Int) : lowL L (g :: r) (sgF L g) = lowL L r (sgF L g) := by
  unfold lowL
  rw [List.foldl_cons]
  congr 1
  unfold limF
  rw [Int.min_self, Int.min_self, Int.min_self]
theorem sg_in {l : List Nd} {n : Int} {L : List Cf} (h : FiP l n L) {g a : Int} (ha : a ∈ ancM l n g) : ∃ t : Nat, ixR (fun x : Cf => decide (x.g = a)) L 0 = t ∧ t < L.length ∧ sgF L a = (gCf L t).s := by
  rcases sgF_ix L a with ⟨_, _, e3⟩ | ⟨t, e1, ht, e2, _, _⟩
  · obtain ⟨x, hx, e⟩ := anc_mem ha
    obtain ⟨i, hi, rfl⟩ := List.getElem_of_mem hx
    have hle := h.len
    have := h.id i (by omega)
    rw [show gN l i = l[i] from getD_at l i zn hi, e] at this
    exact absurd this (e3 _ (getD_mem L i zcf (by omega)))
  · exact ⟨t, e1, ht, e2⟩
set_option maxHeartbeats 16000000 in
theorem slow_spec (l : List Nd) (n : Int) (L : List Cf) (k : Option Nat) (g : Int) (hl : l.length ≤ 1000000) (hL : L.length ≤ 1000000) (hnm : NmR l) (hct : CtR l) (hr : CfR L) : FnSpec Try.prog 26 [trV l none n, gr L k, i1 g] [] (sgt (lwM l n L g)) [] := by
  have h1 := sfits_spec l n L k hl hL hnm hct hr
  have h2 := tanc_spec l n g hl hnm hct
  have h3 := sget_spec L k g hL hr
  have hal := ancM_len l n g
  have hpl := cf_len L
  unfold lwM
  cases hf : fiC l n L with
  | false =>
    rw [hf] at h1
    rw [if_neg (fun h => by cases h.1)]
    by_cases hU : (ancM l n g).length = 0
    · have c0 : ((ancM l n g).length : Int) = 0 := by omega
      generalize ancM l n g = U at *
      refine fnspec_of mixed TT_ok TT_cl ⟨fun _ => false, fun _ => [], 0, fun _ => false, fun _ => false⟩ Try.func26 rfl (by kernel_rfl) rfl 67 rfl [.cell 6 47] rfl ?_
      simp only [go_sem, zaa, zai, zaj, zak, zan, zah, ↓reduceIte, reduceCtorEq, zac, zad, zal, zao, zap, decide_eq_true c0]
      repeat' (first
 | (apply cl_plain
    case hs => rfl
    case ha => (simp only [zae, zag, prepV, prepC, idx, hpL', lookR, zaa, if_true, if_false]; rfl)
    case h => (first | exact h1 .. | exact h2 ..))
 | ((first | refine s1_id ?_ | refine swp_id ?_ | refine sops_id ?_ | refine s2_id ?_); simp only [decide_eq_true c0, go_sem, zaa, zai, zaj, zak, zan, zah, ↓reduceIte, reduceCtorEq, zac, zad, zal, zao, zap, zaR, zaN, zaB, zaO, renO, bk, back, outUpsFrom, Ints_ren])
 | (intros; (try simp only [zav, zay, zau, zas, zaq, zar, decide_eq_true_eq, decide_eq_false_iff_not] at *); omega))
      repeat' (first
 | (refine fs_w ?h1 (svw_of ?h2); (case h1 => repeat' (first | exact trivial | exact rfl | exact zaE rfl | apply zat)); (case h2 => repeat' (first | ((with_reducible refine (?_ : CW _ _)); first | exact cw_gnil | exact cw_rfl _ | exact cw_niln _ _ | exact cw_cap _ _ _ _) | exact trivial | (show _ ∧ SWL _ _; apply zat) | (show _ ∧ CWL _ _; apply zat) | show CW _ _)))
 | fail)
    · have c0 : ¬ ((ancM l n g).length : Int) = 0 := by omega
      generalize ancM l n g = U at *
      refine fnspec_of mixed TT_ok TT_cl ⟨fun _ => false, fun _ => [], 0, fun _ => false, fun _ => false⟩ Try.func26 rfl (by kernel_rfl) rfl 67 rfl [.cell 6 47] rfl ?_
      simp only [go_sem, zaa, zai, zaj, zak, zan, zah, ↓reduceIte, reduceCtorEq, zac, zad, zal, zao, zap, decide_eq_false c0]
      repeat' (first
 | (apply cg_tp
    case hl => rfl
    case ha => (simp only [zae, zag, prepV, prepC, idx, hpL', lookR, zaa, if_true, if_false]; rfl)
    case hs => rfl
    case h => (first | exact h1 .. | exact h2 ..))
 | (apply cl_plain
    case hs => rfl
    case ha => (simp only [zae, zag, prepV, prepC, idx, hpL', lookR, zaa, if_true, if_false]; rfl)
    case h => (first | exact h1 .. | exact h2 ..))
 | ((first | refine s1_id ?_ | refine swp_id ?_ | refine sops_id ?_ | refine s2_id ?_); simp only [decide_eq_false c0, go_sem, zaa, zai, zaj, zak, zan, zah, ↓reduceIte, reduceCtorEq, zac, zad, zal, zao, zap, zaR, zaN, zaB, zaO, renO, bk, back, outUpsFrom, Ints_ren])
 | (intros; (try simp only [zav, zay, zau, zas, zaq, zar, decide_eq_true_eq, decide_eq_false_iff_not] at *); omega))
      repeat' (first
 | (refine fs_w ?h1 (svw_of ?h2); (case h1 => repeat' (first | exact trivial | exact rfl | exact zaE rfl | apply zat)); (case h2 => repeat' (first | ((with_reducible refine (?_ : CW _ _)); first | exact cw_gnil | exact cw_rfl _ | exact cw_niln _ _ | exact cw_cap _ _ _ _) | exact trivial | (show _ ∧ SWL _ _; apply zat) | (show _ ∧ CWL _ _; apply zat) | show CW _ _)))
 | fail)
  | true =>
  rw [hf] at h1
  have hp := (fiC_iff l n L).1 hf
  have hin := fun a (ha : a ∈ ancM l n g) => sg_in hp ha
  have hhd := anc_hd l n g
  clear hp
  generalize ancM l n g = U at *
  by_cases hU : U.length = 0
  · rw [if_neg (fun h => h.2 hU)]
    have c0 : (U.length : Int) = 0 := by omega
    refine fnspec_of mixed TT_ok TT_cl ⟨fun _ => false, fun _ => [], 0, fun _ => false, fun _ => false⟩ Try.func26 rfl (by kernel_rfl) rfl 67 rfl [.cell 6 47] rfl ?_
    simp only [go_sem, zaa, zai, zaj, zak, zan, zah, ↓reduceIte, reduceCtorEq, zac, zad, zal, zao, zap, decide_eq_true c0]
    repeat' (first
 | (apply cl_plain
    case hs => rfl
    case ha => (simp only [zae, zag, prepV, prepC, idx, hpL', lookR, zaa, if_true, if_false]; rfl)
    case h => (first | exact h1 .. | exact h2 ..))
 | ((first | refine s1_id ?_ | refine swp_id ?_ | refine sops_id ?_ | refine s2_id ?_); simp only [decide_eq_true c0, go_sem, zaa, zai, zaj, zak, zan, zah, ↓reduceIte, reduceCtorEq, zac, zad, zal, zao, zap, zaR, zaN, zaB, zaO, renO, bk, back, outUpsFrom, Ints_ren])
 | (intros; (try simp only [zav, zay, zau, zas, zaq, zar, decide_eq_true_eq, decide_eq_false_iff_not] at *); omega))
    repeat' (first
 | (refine fs_w ?h1 (svw_of ?h2); (case h1 => repeat' (first | exact trivial | exact rfl | exact zaE rfl | apply zat)); (case h2 => repeat' (first | ((with_reducible refine (?_ : CW _ _)); first | exact cw_gnil | exact cw_rfl _ | exact cw_niln _ _ | exact cw_cap _ _ _ _) | exact trivial | (show _ ∧ SWL _ _; apply zat) | (show _ ∧ CWL _ _; apply zat) | show CW _ _)))
 | fail)
  have c0 : ¬ (U.length : Int) = 0 := by omega
  rw [if_pos ⟨rfl, hU⟩]
  generalize e0 : sgF L g = s at *
  obtain ⟨S, hS⟩ : ∃ S : Nat → Sg, S = fun m => lowL L (U.take m) s := ⟨_, rfl⟩
  have hS0 : S 0 = s := by rw [hS]; rfl
  have hSn : S U.length = lowL L U s := by rw [hS]; simp only [List.take_length]
  have hSs : ∀ m, m < U.length → S (m + 1) = limF (S m) (sgF L (U.getD m 0)) := fun m hm => by rw [hS]; exact lowL_take L U s m hm
  rw [← hSn]
  clear hS hSn
  rw [← hS0] at h3
  simp only [sgt, sgc] at h3
  refine fnspec_of mixed TT_ok TT_cl ⟨fun _ => false, fun _ => [], 0, fun _ => false, fun _ => false⟩ Try.func26 rfl (by kernel_rfl) rfl 67 rfl [.cell 6 47] rfl ?_
  simp only [go_sem, zaa, zai, zaj, zak, zan, zah, ↓reduceIte, reduceCtorEq, zac, zad, zal, zao, zap, decide_eq_false c0]
  repeat' (first
 | (apply cg_tp
    case hl => rfl
    case ha => (simp only [zae, zag, prepV, prepC, idx, hpL', lookR, zaa, if_true, if_false]; rfl)
    case hs => rfl
    case h => (first | exact h1 .. | exact h2 .. | exact h3 ..))
 | (apply cl_plain
    case hs => rfl
    case ha => (simp only [zae, zag, prepV, prepC, idx, hpL', lookR, zaa, if_true, if_false]; rfl)
    case h => (first | exact h1 .. | exact h2 .. | exact h3 ..))
 | ((first | refine s1_id ?_ | refine swp_id ?_ | refine sops_id ?_ | refine s2_id ?_); simp only [decide_eq_false c0, zaI, zaK, zam, zaL, zaM, zaG, zaH, zaF, zaQ, zaS, zaz, zaA, go_sem, zaa, zai, zaj, zak, zan, zah, ↓reduceIte, reduceCtorEq, zac, zad, zal, zao, zap, zaR, zaN, zaB, zaO, renO, bk, back, outUpsFrom, Ints_ren])
 | (intros; (try simp only [zav, zay, zau, zas, zaq, zar, decide_eq_true_eq, decide_eq_false_iff_not] at *); omega))
  refine w_loop (ι := Nat) (fun m => ⟨[(1, gr L k), (6, .one (.optr 0 0)), (8, .one (.optr 1 0)), (28, gi U none), (29, i1 U.length), (30, i1 m)], [(0, some zsr), (1, some ⟨[int (S m).pm, int (S m).w, int (S m).q, int (S m).pe, int (S m).b, int (S m).c0, int (S m).c1, .gsl (Ints (S m).cp) 0 (S m).cp.length none, .gsl (Ints (S m).mm) 0 (S m).mm.length none, int (S m).pt, int (S m).m0, int (S m).m1, int (S m).m2, int (S m).m3, int (S m).m4, bool (S m).mt, .gsl [] 0 0 none], 17⟩)], 2⟩) (fun m => m ≤ U.length) (fun m => U.length - m) 0 ?_ (zaW _) ?_
  · (refine imp_ren _ _ _ [(0, 1, zsr), (1, 18, ⟨[int (S 0).pm, int (S 0).w, int (S 0).q, int (S 0).pe, int (S 0).b, int (S 0).c0, int (S 0).c1, .gsl (Ints (S 0).cp) 0 (S 0).cp.length none, .gsl (Ints (S 0).mm) 0 (S 0).mm.length none, int (S 0).pt, int (S 0).m0, int (S 0).m1, int (S 0).m2, int (S 0).m3, int (S 0).m4, bool (S 0).mt, .gsl [] 0 0 none], 17⟩)] (by simp) (by simp) (by simp) (zaE rfl) ?_ rfl (by simp only [zab, zaf, false_implies, implies_true, and_true, zaT, lookR, zaa, if_true, if_false, ↓reduceIte] <;> (repeat' apply zat) <;> (first | rfl | trivial)) (by simp only [zab, zaf, false_implies, implies_true, and_true, true_and, flat_cons, flat_nil, flat_ints, flat_bools, flat_app, zaP, and_self, eq_self_iff_true, zam]); simp only [zae, zag, zab, zaf, false_implies, implies_true, and_true, lk, slot, zaR, zaB, toN, zaa, if_true, if_false, ↓reduceIte, reduceCtorEq])
    all_goals ((repeat' apply zat) <;> (first | rfl | trivial))
  clear h1 h2 h3
  intro m hm
  simp only at hm ⊢
  rcases zaX m U.length with hlt | hge
  case inr =>
    have c : ¬ (m : Int) < (U.length : Int) := by omega
    obtain rfl : m = U.length := by omega
    generalize S U.length = x at *
    obtain ⟨pm, w, q, pe, b, c0, c1, cp, mm, pt, m0, m1, m2, m3, m4, mt⟩ := x
    simp only [finF, sgt, sgc]
    simp only [go_sem, zaa, zai, zaj, zak, zan, zah, ↓reduceIte, reduceCtorEq, zac, zad, zal, zao, zap, decide_eq_false c, zsr, if_minS]
    repeat' (first
 | with_reducible refine zat ?_ ?_
 | (intros; omega)
 | (apply fs_nil <;> (try simp only [go_sem, resV, resS, zaR, zaN, zaB, zaU, zaT, idx, renO, zaO, evS, slot, lookR, zaa, ↓reduceIte, reduceCtorEq, if_true, if_false, zaC, zaD, zae, zag, sLoad, readAt, readNeed, Ints_ren, Ints_length, Ints_getD, and_true, true_and, zaw, zax]) <;> (try rfl))
 | fail)
  have c : (m : Int) < (U.length : Int) := by omega
  obtain ⟨t, e1, ht, e2⟩ := hin _ (getD_mem U m 0 hlt)
  have h4 := spos_spec L k (U.getD m 0) hL
  rw [e1] at h4
  have hT := cf_ts L t ht
  rw [← e2] at hT
  clear hin hhd
  have hSm := hSs m hlt
  generalize S m = x at *
  obtain ⟨pm, w, q, pe, b, c0, c1, cp, mm, pt, m0, m1, m2, m3, m4, mt⟩ := x
  generalize sgF L (U.getD m 0) = y at *
  obtain ⟨pm', w', q', pe', b', c0', c1', cp', mm', pt', m0', m1', m2', m3', m4', mt'⟩ := y
  simp only [limF] at hSm
  simp only [sgt, sgc] at h4 hT
  generalize e5 : U.getD m 0 = a at *
  simp only [go_sem, zaa, zai, zaj, zak, zan, zah, ↓reduceIte, reduceCtorEq, zac, zad, zal, zao, zap, decide_eq_true c, hT, e5, zsr, if_minS]
  repeat' (first
 | with_reducible refine zat ?_ ?_
 | (apply cl_plain
    case hs => rfl
    case ha => (simp only [zae, zag, prepV, prepC, idx, hpL', lookR, zaa, if_true, if_false]; rfl)
    case h => (first | exact h4 ..))
 | ((first | refine s1_id ?_ | refine swp_id ?_ | refine sops_id ?_ | refine s2_id ?_); simp only [decide_eq_true c, hT, e5, zsr, if_minS, zaI, zaK, zam, zaL, zaM, zaG, zaH, zaF, zaQ, zaS, zaz, zaA, go_sem, zaa, zai, zaj, zak, zan, zah, ↓reduceIte, reduceCtorEq, zac, zad, zal, zao, zap, zaR, zaN, zaB, zaO, renO, bk, back, outUpsFrom, Ints_ren])
 | (intros; omega)
 | (intros; (try simp only [zav, zay, zau, zas, zaq, zar, decide_eq_true_eq, decide_eq_false_iff_not] at *); omega))
  refine le_mk (m + 1) ?_ hlt (by show U.length - (m + 1) < U.length - m; omega)
  simp only [hSm]
  (refine imp_ren _ _ _ [(0, 0, zsr), (1, 1, ⟨[int (min pm pm'), int w, int (min q q'), int pe, int b, int c0, int (min c1 c1'), .gsl (Ints cp) 0 cp.length none, .gsl (Ints mm) 0 mm.length none, int pt, int m0, int m1, int m2, int m3, int m4, bool mt, .gsl [] 0 0 none], 17⟩)] (by simp) (by simp) (by simp) (zaE rfl) ?_ rfl (by simp only [zab, zaf, false_implies, implies_true, and_true, zaT, lookR, zaa, if_true, if_false, ↓reduceIte] <;> (repeat' apply zat) <;> (first | rfl | trivial)) (by simp only [zab, zaf, false_implies, implies_true, and_true, true_and, flat_cons, flat_nil, flat_ints, flat_bools, flat_app, zaP, and_self, eq_self_iff_true, zam]); simp only [zae, zag, zab, zaf, false_implies, implies_true, and_true, lk, slot, zaR, zaB, toN, zaa, if_true, if_false, ↓reduceIte, reduceCtorEq])
  all_goals ((repeat' apply zat) <;> (first | rfl | trivial | (simp only [zaJ]; done) | (simp only [zaJ]; rfl) | (simp only [zaJ]; trivial)))
end Go.Proofs.Ytcnilpdlcmpbbab
-- NEWGO
-- PRUNE: cl_lendx cl_use cl_lend
-- ISG: Cs_isG
-- FLAT: Cs_flat
namespace Go.Proofs.Ytcnilpdlcmpbbab
set_option linter.unusedVariables false
set_option linter.unusedSimpArgs false
open Go.Proofs.Ytcnilpdlcmpbbab.Sh
set_option maxRecDepth 20000
set_option maxHeartbeats 16000000 in
theorem srlow_spec (l : List Nd) (n : Int) (L : List Cf) (k : Option Nat) (g : Int) (hl : l.length ≤ 1000000) (hL : L.length ≤ 1000000) (hnm : NmR l) (hr : CfR L) : FnSpec Try.prog 38 [trV l none n, gr L k, i1 g] [] (sgt (lwM l n L g)) [] := by
  have h1 := srfits_spec l n L k hl hL hnm hr
  have h2 := ranc_spec l none n g hl hnm
  have h3 := srget_spec L k g hL hr
  have hal := ancM_len l n g
  have hpl := cf_len L
  unfold lwM
  cases hf : fiC l n L with
  | false =>
    rw [hf] at h1
    rw [if_neg (fun h => by cases h.1)]
    generalize ancM l n g = U at *
    refine fnspec_of mixed TT_ok TT_cl ⟨fun _ => false, fun _ => [], 0, fun _ => false, fun _ => false⟩ Try.func38 rfl (by kernel_rfl) rfl 64 rfl [.cell 6 47] rfl ?_
    simp only [go_sem, zaa, zai, zaj, zak, zan, zah, ↓reduceIte, reduceCtorEq, zac, zad, zal, zao, zap]
    repeat' (first
 | (apply cl_plain
    case hs => rfl
    case ha => (simp only [zae, zag, prepV, prepC, idx, hpL', lookR, zaa, if_true, if_false]; rfl)
    case h => (first | exact h1 .. | exact h2 ..))
 | ((first | refine s1_id ?_ | refine swp_id ?_ | refine sops_id ?_ | refine s2_id ?_); simp only [go_sem, zaa, zai, zaj, zak, zan, zah, ↓reduceIte, reduceCtorEq, zac, zad, zal, zao, zap, zaR, zaN, zaB, zaO, renO, bk, back, outUpsFrom, Ints_ren])
 | (intros; (try simp only [zav, zay, zau, zas, zaq, zar, decide_eq_true_eq, decide_eq_false_iff_not] at *); omega))
    repeat' (first
 | (refine fs_w ?h1 (svw_of ?h2); (case h1 => repeat' (first | exact trivial | exact rfl | exact zaE rfl | apply zat)); (case h2 => repeat' (first | ((with_reducible refine (?_ : CW _ _)); first | exact cw_gnil | exact cw_rfl _ | exact cw_niln _ _ | exact cw_cap _ _ _ _) | exact trivial | (show _ ∧ SWL _ _; apply zat) | (show _ ∧ CWL _ _; apply zat) | show CW _ _)))
 | fail)
  | true =>
  rw [hf] at h1
  have hp := (fiC_iff l n L).1 hf
  have hin := fun a (ha : a ∈ ancM l n g) => sg_in hp ha
  have hhd := anc_hd l n g
  clear hp
  generalize ancM l n g = U at *
  by_cases hU : U.length = 0
  · rw [if_neg (fun h => h.2 hU)]
    have c0 : (U.length : Int) = 0 := by omega
    refine fnspec_of mixed TT_ok TT_cl ⟨fun _ => false, fun _ => [], 0, fun _ => false, fun _ => false⟩ Try.func38 rfl (by kernel_rfl) rfl 64 rfl [.cell 6 47] rfl ?_
    simp only [go_sem, zaa, zai, zaj, zak, zan, zah, ↓reduceIte, reduceCtorEq, zac, zad, zal, zao, zap, decide_eq_true c0]
    repeat' (first
 | (apply cl_plain
    case hs => rfl
    case ha => (simp only [zae, zag, prepV, prepC, idx, hpL', lookR, zaa, if_true, if_false]; rfl)
    case h => (first | exact h1 .. | exact h2 ..))
 | ((first | refine s1_id ?_ | refine swp_id ?_ | refine sops_id ?_ | refine s2_id ?_); simp only [decide_eq_true c0, go_sem, zaa, zai, zaj, zak, zan, zah, ↓reduceIte, reduceCtorEq, zac, zad, zal, zao, zap, zaR, zaN, zaB, zaO, renO, bk, back, outUpsFrom, Ints_ren])
 | (intros; (try simp only [zav, zay, zau, zas, zaq, zar, decide_eq_true_eq, decide_eq_false_iff_not] at *); omega))
    repeat' (first
 | (refine fs_w ?h1 (svw_of ?h2); (case h1 => repeat' (first | exact trivial | exact rfl | exact zaE rfl | apply zat)); (case h2 => repeat' (first | ((with_reducible refine (?_ : CW _ _)); first | exact cw_gnil | exact cw_rfl _ | exact cw_niln _ _ | exact cw_cap _ _ _ _) | exact trivial | (show _ ∧ SWL _ _; apply zat) | (show _ ∧ CWL _ _; apply zat) | show CW _ _)))
 | fail)
  have c0 : ¬ (U.length : Int) = 0 := by omega
  rw [if_pos ⟨rfl, hU⟩]
  obtain ⟨V, rfl⟩ : ∃ V, U = g :: V := hhd.resolve_left (fun h => hU (by rw [h]; rfl))
  rw [lowL_hd]
  generalize e0 : sgF L g = s at *
  obtain ⟨S, hS⟩ : ∃ S : Nat → Sg, S = fun m => lowL L (V.take m) s := ⟨_, rfl⟩
  have hS0 : S 0 = s := by rw [hS]; rfl
  have hSn : S V.length = lowL L V s := by rw [hS]; simp only [List.take_length]
  have hSs : ∀ m, m < V.length → S (m + 1) = limF (S m) (sgF L (V.getD m 0)) := fun m hm => by rw [hS]; exact lowL_take L V s m hm
  rw [← hSn]
  clear hS hSn
  rw [← hS0] at h3
  simp only [sgt, sgc] at h3
  refine fnspec_of mixed TT_ok TT_cl ⟨fun _ => false, fun _ => [], 0, fun _ => false, fun _ => false⟩ Try.func38 rfl (by kernel_rfl) rfl 64 rfl [.cell 6 47] rfl ?_
  simp only [go_sem, zaa, zai, zaj, zak, zan, zah, ↓reduceIte, reduceCtorEq, zac, zad, zal, zao, zap, decide_eq_false c0]
  repeat' (first
 | (refine gt_if (fun h => ?_) (fun h => ?_) <;> (try simp only [h]))
 | (apply cl_plain
    case hs => rfl
    case ha => (simp only [zae, zag, prepV, prepC, idx, hpL', lookR, zaa, if_true, if_false]; rfl)
    case h => (first | exact h1 .. | exact h2 .. | exact h3 ..))
 | ((first | refine s1_id ?_ | refine swp_id ?_ | refine sops_id ?_ | refine s2_id ?_); simp only [decide_eq_false c0, zaI, zaK, zam, zaL, zaM, zaG, zaH, zaF, zaQ, zaS, zaz, zaA, go_sem, zaa, zai, zaj, zak, zan, zah, ↓reduceIte, reduceCtorEq, zac, zad, zal, zao, zap, zaR, zaN, zaB, zaO, renO, bk, back, outUpsFrom, Ints_ren])
 | (intros; (try simp only [zav, zay, zau, zas, zaq, zar, decide_eq_true_eq, decide_eq_false_iff_not] at *); omega))
  refine w_loop (ι := Nat) (fun m => ⟨[(1, gr L k), (6, .one (.optr 0 0)), (8, .one (.optr 1 0)), (7, gi (g :: V) none), (9, i1 ((m : Int) + 1))], [(0, some zsr), (1, some ⟨[int (S m).pm, int (S m).w, int (S m).q, int (S m).pe, int (S m).b, int (S m).c0, int (S m).c1, .gsl (Ints (S m).cp) 0 (S m).cp.length none, .gsl (Ints (S m).mm) 0 (S m).mm.length none, int (S m).pt, int (S m).m0, int (S m).m1, int (S m).m2, int (S m).m3, int (S m).m4, bool (S m).mt, .gsl [] 0 0 none], 17⟩)], 2⟩) (fun m => m ≤ V.length) (fun m => V.length - m) 0 ?_ (zaW _) ?_
  · (refine imp_ren _ _ _ [(0, 1, zsr), (1, 18, ⟨[int (S 0).pm, int (S 0).w, int (S 0).q, int (S 0).pe, int (S 0).b, int (S 0).c0, int (S 0).c1, .gsl (Ints (S 0).cp) 0 (S 0).cp.length none, .gsl (Ints (S 0).mm) 0 (S 0).mm.length none, int (S 0).pt, int (S 0).m0, int (S 0).m1, int (S 0).m2, int (S 0).m3, int (S 0).m4, bool (S 0).mt, .gsl [] 0 0 none], 17⟩)] (by simp) (by simp) (by simp) (zaE rfl) ?_ rfl (by simp only [zab, zaf, false_implies, implies_true, and_true, zaT, lookR, zaa, if_true, if_false, ↓reduceIte] <;> (repeat' apply zat) <;> (first | rfl | trivial)) (by simp only [zab, zaf, false_implies, implies_true, and_true, true_and, flat_cons, flat_nil, flat_ints, flat_bools, flat_app, zaP, and_self, eq_self_iff_true, zam]); simp only [zae, zag, zab, zaf, false_implies, implies_true, and_true, lk, slot, zaR, zaB, toN, zaa, if_true, if_false, ↓reduceIte, reduceCtorEq])
    all_goals ((repeat' apply zat) <;> (first | rfl | trivial))
  clear h1 h2 h3
  intro m hm
  simp only at hm ⊢
  rcases zaX m V.length with hlt | hge
  case inr =>
    have hgl : (g :: V).length = V.length + 1 := rfl
    have c : ¬ (m : Int) + 1 < (((g :: V).length : Nat) : Int) := by omega
    obtain rfl : m = V.length := by omega
    generalize S V.length = x at *
    obtain ⟨pm, w, q, pe, b, c0, c1, cp, mm, pt, m0, m1, m2, m3, m4, mt⟩ := x
    simp only [finF, sgt, sgc]
    simp only [go_sem, zaa, zai, zaj, zak, zan, zah, ↓reduceIte, reduceCtorEq, zac, zad, zal, zao, zap, decide_eq_false c, zsr, if_minS]
    repeat' (first
 | with_reducible refine zat ?_ ?_
 | (refine gt_if (fun h => ?_) (fun h => ?_) <;> (try simp only [h]))
 | ((first | refine s1_id ?_ | refine swp_id ?_ | refine sops_id ?_ | refine s2_id ?_); simp only [decide_eq_false c, zsr, if_minS, zaI, zaK, zam, zaL, zaM, zaG, zaH, zaF, zaQ, zaS, zaz, zaA, go_sem, zaa, zai, zaj, zak, zan, zah, ↓reduceIte, reduceCtorEq, zac, zad, zal, zao, zap, zaR, zaN, zaB, zaO, renO, bk, back, outUpsFrom, Ints_ren])
 | (intros; omega)
 | (intros; (try simp only [zav, zay, zau, zas, zaq, zar, decide_eq_true_eq, decide_eq_false_iff_not] at *); omega)
 | (apply fs_nil <;> (try simp only [go_sem, resV, resS, zaR, zaN, zaB, zaU, zaT, idx, renO, zaO, evS, slot, lookR, zaa, ↓reduceIte, reduceCtorEq, if_true, if_false, zaC, zaD, zae, zag, sLoad, readAt, readNeed, Ints_ren, Ints_length, Ints_getD, and_true, true_and, zaw, zax]) <;> (try rfl))
 | fail)
  have hgl : (g :: V).length = V.length + 1 := rfl
  have c : (m : Int) + 1 < (((g :: V).length : Nat) : Int) := by omega
  have h4 := srget_spec L k (V.getD m 0) hL hr
  have hat : (g :: V).getD (m + 1) 0 = V.getD m 0 := rfl
  have htn : ((m : Int) + 1).toNat = m + 1 := by omega
  clear hin hhd
  have hSm := hSs m hlt
  generalize S m = x at *
  obtain ⟨pm, w, q, pe, b, c0, c1, cp, mm, pt, m0, m1, m2, m3, m4, mt⟩ := x
  generalize sgF L (V.getD m 0) = y at *
  obtain ⟨pm', w', q', pe', b', c0', c1', cp', mm', pt', m0', m1', m2', m3', m4', mt'⟩ := y
  simp only [limF] at hSm
  simp only [sgt, sgc] at h4 
  generalize e5 : V.getD m 0 = a at *
  simp only [go_sem, zaa, zai, zaj, zak, zan, zah, ↓reduceIte, reduceCtorEq, zac, zad, zal, zao, zap, decide_eq_true c, htn, hat, e5, zsr, if_minS]
  repeat' (first
 | with_reducible refine zat ?_ ?_
 | (unfold OKC; kernel_rfl)
 | (unfold EDG; kernel_rfl)
 | (refine gt_if (fun h => ?_) (fun h => ?_) <;> (try simp only [h]))
 | (apply cl_plain
    case hs => rfl
    case ha => (simp only [zae, zag, prepV, prepC, idx, hpL', lookR, zaa, if_true, if_false]; rfl)
    case h => (first | exact h4 ..))
 | ((first | refine s1_id ?_ | refine swp_id ?_ | refine sops_id ?_ | refine s2_id ?_); simp only [decide_eq_true c, htn, hat, e5, zsr, if_minS, zaI, zaK, zam, zaL, zaM, zaG, zaH, zaF, zaQ, zaS, zaz, zaA, go_sem, zaa, zai, zaj, zak, zan, zah, ↓reduceIte, reduceCtorEq, zac, zad, zal, zao, zap, zaR, zaN, zaB, zaO, renO, bk, back, outUpsFrom, Ints_ren])
 | (intros; omega)
 | (intros; (try simp only [zav, zay, zau, zas, zaq, zar, decide_eq_true_eq, decide_eq_false_iff_not] at *); omega))
  refine le_mk (m + 1) ?_ hlt (by show V.length - (m + 1) < V.length - m; omega)
  simp only [hSm]
  (refine imp_ren _ _ _ [(0, 0, zsr), (1, 1, ⟨[int (min pm pm'), int w, int (min q q'), int pe, int b, int c0, int (min c1 c1'), .gsl (Ints cp) 0 cp.length none, .gsl (Ints mm) 0 mm.length none, int pt, int m0, int m1, int m2, int m3, int m4, bool mt, .gsl [] 0 0 none], 17⟩)] (by simp) (by simp) (by simp) (zaE rfl) ?_ rfl (by simp only [zab, zaf, false_implies, implies_true, and_true, zaT, lookR, zaa, if_true, if_false, ↓reduceIte] <;> (repeat' apply zat) <;> (first | rfl | trivial)) (by simp only [zab, zaf, false_implies, implies_true, and_true, true_and, flat_cons, flat_nil, flat_ints, flat_bools, flat_app, zaP, and_self, eq_self_iff_true, zam]); simp only [zae, zag, zab, zaf, false_implies, implies_true, and_true, lk, slot, zaR, zaB, toN, zaa, if_true, if_false, ↓reduceIte, reduceCtorEq])
  all_goals ((repeat' apply zat) <;> (first | rfl | trivial | (simp only [zaJ]; done) | (simp only [zaJ]; rfl) | (simp only [zaJ]; trivial)))
end Go.Proofs.Ytcnilpdlcmpbbab
-- NEWGO
-- PRUNE: cl_lendx cl_use cl_lend
-- ISG: Cs_isG
-- FLAT: Cs_flat
namespace Go.Proofs.Ytcnilpdlcmpbbab
set_option linter.unusedVariables false
set_option linter.unusedSimpArgs false
open Go.Proofs.Ytcnilpdlcmpbbab.Sh
set_option maxRecDepth 20000
def scOk (L M : List Cf) (i : Nat) : Bool := decide ((gCf L i).g = (gCf M i).g) && smS (gCf L i).s (gCf M i).s
def scF (L M : List Cf) : Bool := decide (L.length = M.length) && allN L.length (scOk L M)
theorem smM_refl (x : Sg) : smM x x = true := by
  unfold smM
  simp
theorem smS_refl (x : Sg) : smS x x = true := by
  unfold smS
  rw [smM_refl]
  simp
theorem scF_refl (L : List Cf) : scF L L = true := by
  unfold scF
  rw [decide_eq_true rfl, zbb, allN_iff]
  intro i _
  unfold scOk
  rw [smS_refl, decide_eq_true rfl]; rfl
set_option maxHeartbeats 8000000 in
theorem srsamec_spec (L M : List Cf) (k k2 : Option Nat) (hL : L.length ≤ 1000000) (hM : M.length ≤ 1000000) (hr : CfR L) : FnSpec Try.prog 34 [gr L k, gr M k2] [] (b1 (scF L M)) [] := by
  have hpl := cf_len L
  have hpm := cf_len M
  unfold scF
  by_cases hle : L.length = M.length
  case neg =>
    have c : ¬ (L.length : Int) = (M.length : Int) := by omega
    rw [decide_eq_false hle, Bool.false_and]
    refine fnspec_of mixed TT_ok TT_cl ⟨fun _ => false, fun _ => [], 0, fun _ => false, fun _ => false⟩ Try.func34 rfl (by kernel_rfl) rfl 42 rfl [.tmp 4] rfl ?_
    simp only [go_sem, zaa, zai, zaj, zak, zan, zah, ↓reduceIte, reduceCtorEq, zac, zad, zal, zao, zap, decide_eq_false c]
    repeat' (first
 | exact fs_nil trivial rfl
 | fail)
  rw [decide_eq_true hle, zbb]
  have c : (L.length : Int) = (M.length : Int) := by omega
  refine fnspec_of mixed TT_ok TT_cl ⟨fun _ => false, fun _ => [], 0, fun _ => false, fun _ => false⟩ Try.func34 rfl (by kernel_rfl) rfl 42 rfl [.tmp 4] rfl ?_
  simp only [go_sem, zaa, zai, zaj, zak, zan, zah, ↓reduceIte, reduceCtorEq, zac, zad, zal, zao, zap, decide_eq_true c]
  repeat' (first
 | (intros; (try simp only [zav, zay, zau, zas, zaq, zar, decide_eq_true_eq, decide_eq_false_iff_not] at *); omega))
  refine w_loop (ι := Nat) (fun m => ⟨[(0, gr L k), (1, gr M k2), (5, i1 m)], [], 0⟩) (fun m => m ≤ L.length ∧ ∀ i, i < m → scOk L M i = true) (fun m => L.length - m) 0 ?_ ⟨zaW _, fun i hi => absurd hi (Nat.not_lt_zero _)⟩ ?_
  · (refine imp_ren _ _ _ [] (by simp) (by simp) (by simp) (zaE rfl) ?_ rfl (by simp only [zab, zaf, false_implies, implies_true, and_true, zaT, lookR, zaa, if_true, if_false, ↓reduceIte] <;> (repeat' apply zat) <;> (first | rfl | trivial)) (by simp only [zab, zaf, false_implies, implies_true, and_true, true_and, flat_cons, flat_nil, flat_ints, flat_bools, flat_app, zaP, and_self, eq_self_iff_true, zam]); simp only [zae, zag, zab, zaf, false_implies, implies_true, and_true, lk, slot, zaR, zaB, toN, zaa, if_true, if_false, ↓reduceIte, reduceCtorEq])
    all_goals ((repeat' apply zat) <;> (first | rfl | trivial))
  rintro m ⟨hm, hok⟩
  simp only at hm hok ⊢
  rcases zaX m L.length with hlt | hge
  case inr =>
    have c2 : ¬ (m : Int) < (L.length : Int) := by omega
    obtain rfl : m = L.length := by omega
    rw [(allN_iff _ _).2 hok]
    simp only [go_sem, zaa, zai, zaj, zak, zan, zah, ↓reduceIte, reduceCtorEq, zac, zad, zal, zao, zap, decide_eq_false c2]
    repeat' (first
 | exact fs_nil trivial rfl
 | fail)
  have c2 : (m : Int) < (L.length : Int) := by omega
  have hltM : m < M.length := by omega
  have hT := cf_ts L m hlt
  have hT2 := cf_ts M m hltM
  have p1 := cf_f0 L m hlt (.sc (.int .i64 0))
  have p2 := cf_f0 M m hltM (.sc (.int .i64 0))
  have hmr := hr _ (getD_mem L m zcf hlt)
  have h2 := srsame_spec (gCf L m).s (gCf M m).s hmr.1 hmr.2
  have hce : scOk L M m = (decide ((gCf L m).g = (gCf M m).g) && smS (gCf L m).s (gCf M m).s) := rfl
  have hno : scOk L M m = false → allN L.length (scOk L M) = false := fun hf => Bool.eq_false_iff.2 fun h => by have := (allN_iff _ _).1 h m hlt; rw [hf] at this; cases this
  clear hmr
  generalize gCf L m = x at *
  generalize gCf M m = y at *
  generalize smS x.s y.s = P at *
  obtain ⟨a, pm, w, q, pe, b, c0, c1, cp, mm, pt, m0, m1, m2, m3, m4, mt⟩ := x
  obtain ⟨a', pm', w', q', pe', b', c0', c1', cp', mm', pt', m0', m1', m2', m3', m4', mt'⟩ := y
  simp only [sgc, sgt] at hT hT2 h2
  simp only at hce p1 p2
  by_cases k0 : a = a'
  case neg =>
    rw [hno (by rw [hce, decide_eq_false k0]; rfl)]
    simp only [go_sem, zaa, zai, zaj, zak, zan, zah, ↓reduceIte, reduceCtorEq, zac, zad, zal, zao, zap, decide_eq_true c2, hT, hT2, p1, p2, decide_eq_false k0]
    repeat' (first
 | with_reducible refine zat ?_ ?_
 | (unfold OKC; kernel_rfl)
 | (unfold EDG; kernel_rfl)
 | (intros; omega)
 | exact fs_nil trivial rfl
 | fail)
  rw [decide_eq_true k0, zbb] at hce
  cases P with
  | false =>
    rw [hno hce]
    simp only [go_sem, zaa, zai, zaj, zak, zan, zah, ↓reduceIte, reduceCtorEq, zac, zad, zal, zao, zap, decide_eq_true c2, hT, hT2, p1, p2, decide_eq_true k0]
    repeat' (first
 | with_reducible refine zat ?_ ?_
 | (unfold OKC; kernel_rfl)
 | (unfold EDG; kernel_rfl)
 | (apply cg_tp
    case hl => rfl
    case ha => (simp only [zae, zag, prepV, prepC, idx, hpL', lookR, zaa, if_true, if_false]; rfl)
    case hs => rfl
    case h => (first | exact h2 ..))
 | ((first | refine s1_id ?_ | refine swp_id ?_ | refine sops_id ?_ | refine s2_id ?_); simp only [decide_eq_true c2, hT, hT2, p1, p2, decide_eq_true k0, zaI, zaK, zam, zaL, zaM, zaG, zaH, zaF, zaQ, zaS, zaz, zaA, go_sem, zaa, zai, zaj, zak, zan, zah, ↓reduceIte, reduceCtorEq, zac, zad, zal, zao, zap, zaR, zaN, zaB, zaO, renO, bk, back, outUpsFrom, Ints_ren])
 | (intros; omega)
 | exact fs_nil trivial rfl
 | fail)
  | true =>
  simp only [go_sem, zaa, zai, zaj, zak, zan, zah, ↓reduceIte, reduceCtorEq, zac, zad, zal, zao, zap, decide_eq_true c2, hT, hT2, p1, p2, decide_eq_true k0]
  repeat' (first
 | with_reducible refine zat ?_ ?_
 | (unfold OKC; kernel_rfl)
 | (unfold EDG; kernel_rfl)
 | (apply cg_tp
    case hl => rfl
    case ha => (simp only [zae, zag, prepV, prepC, idx, hpL', lookR, zaa, if_true, if_false]; rfl)
    case hs => rfl
    case h => (first | exact h2 ..))
 | ((first | refine s1_id ?_ | refine swp_id ?_ | refine sops_id ?_ | refine s2_id ?_); simp only [decide_eq_true c2, hT, hT2, p1, p2, decide_eq_true k0, zaI, zaK, zam, zaL, zaM, zaG, zaH, zaF, zaQ, zaS, zaz, zaA, go_sem, zaa, zai, zaj, zak, zan, zah, ↓reduceIte, reduceCtorEq, zac, zad, zal, zao, zap, zaR, zaN, zaB, zaO, renO, bk, back, outUpsFrom, Ints_ren])
 | (intros; omega)
 | (intros; (try simp only [zav, zay, zau, zas, zaq, zar, decide_eq_true_eq, decide_eq_false_iff_not] at *); omega))
  refine le_mk (m + 1) ?_ ⟨hlt, fun i hi => by rcases Nat.lt_succ_iff_lt_or_eq.1 hi with h | h; (· exact hok i h); (· rw [h]; exact hce)⟩ (by omega)
  (refine imp_ren _ _ _ [] (by simp) (by simp) (by simp) (zaE rfl) ?_ rfl (by simp only [zab, zaf, false_implies, implies_true, and_true, zaT, lookR, zaa, if_true, if_false, ↓reduceIte] <;> (repeat' apply zat) <;> (first | rfl | trivial)) (by simp only [zab, zaf, false_implies, implies_true, and_true, true_and, flat_cons, flat_nil, flat_ints, flat_bools, flat_app, zaP, and_self, eq_self_iff_true, zam]); simp only [zae, zag, zab, zaf, false_implies, implies_true, and_true, lk, slot, zaR, zaB, toN, zaa, if_true, if_false, ↓reduceIte, reduceCtorEq])
  all_goals ((repeat' apply zat) <;> (first | rfl | trivial | (simp only [zaJ]; done) | (simp only [zaJ]; rfl) | (simp only [zaJ]; trivial)))
end Go.Proofs.Ytcnilpdlcmpbbab
-- NEWGO
-- PRUNE: cl_lendx cl_use cl_lend
-- ISG: Cs_isG
-- FLAT: Cs_flat
namespace Go.Proofs.Ytcnilpdlcmpbbab
set_option linter.unusedVariables false
set_option linter.unusedSimpArgs false
open Go.Proofs.Ytcnilpdlcmpbbab.Sh
set_option maxRecDepth 20000
theorem VT.ctr {l : List Nd} {n : Int} (h : VT l n) : CtR l := fun x hx => by
  have := (h.vl.all x hx).2
  unfold rngOk at this
  simp only [zav, decide_eq_true_eq] at this
  omega
abbrev yT : List Nd := [⟨1, 0, [], 0, 0, 0⟩, ⟨2, 1, [97], 0, 0, 0⟩, ⟨3, 2, [98], 0, 0, 0⟩]
abbrev yS : Sg := ⟨5, 100, 4611686018427387904, 100000, 0, 0, 10000, [], [], 0, 0, 0, 4611686018427387904, 4611686018427387904, 4611686018427387904, false⟩
abbrev yL0 : List Cf := [⟨1, dfS⟩, ⟨2, dfS⟩, ⟨3, dfS⟩]
abbrev yL1 : List Cf := [⟨1, dfS⟩, ⟨2, yS⟩, ⟨3, dfS⟩]
theorem dfS_r : SgR dfS := ⟨by decide, by decide⟩
set_option maxHeartbeats 4000000 in
theorem sgsane_spec : FnSpec Try.prog 10 [] [] (b1 true) [] := by
  have hN : NmR yT := fun x hx => by simp only [zaY, zaf, or_false] at hx; rcases hx with rfl | rfl | rfl <;> decide
  have hC : CtR yT := fun x hx => by simp only [zaY, zaf, or_false] at hx; rcases hx with rfl | rfl | rfl <;> decide
  have hR0 : CfR yL0 := fun x hx => by simp only [zaY, zaf, or_false] at hx; rcases hx with rfl | rfl | rfl <;> exact ⟨by decide, by decide⟩
  have hR1 : CfR yL1 := fun x hx => by simp only [zaY, zaf, or_false] at hx; rcases hx with rfl | rfl | rfl <;> exact ⟨by decide, by decide⟩
  have a1 := radd_spec [⟨1, 0, [], 0, 0, 0⟩] none 2 1 [97] (by decide) (fun x hx => by rw [List.mem_singleton.1 hx]; decide) (by decide)
  have e1 : addM [⟨1, 0, [], 0, 0, 0⟩] 2 1 [97] = (([⟨1, 0, [], 0, 0, 0⟩, ⟨2, 1, [97], 0, 0, 0⟩], 3), 2, 0) := by kernel_rfl
  rw [e1] at a1
  have a2 := radd_spec [⟨1, 0, [], 0, 0, 0⟩, ⟨2, 1, [97], 0, 0, 0⟩] none 3 2 [98] (by decide) (fun x hx => by simp only [zaY, zaf, or_false] at hx; rcases hx with rfl | rfl <;> decide) (by decide)
  have e2 : addM [⟨1, 0, [], 0, 0, 0⟩, ⟨2, 1, [97], 0, 0, 0⟩] 3 2 [98] = ((yT, 4), 3, 0) := by kernel_rfl
  rw [e2] at a2
  have b0 := snew_spec yT 4 (by decide) hN hC
  have f0 : (if chkT yT 4 = true then adF yT [] else []) = yL0 := by kernel_rfl
  rw [f0] at b0
  have b1' := sset_spec yT 4 yL0 none 2 yS (by decide) (by decide) hN hC hR0 ⟨by decide, by decide⟩
  have f1 : stM yT 4 yL0 2 yS = (yL1, 0) := by kernel_rfl
  rw [f1] at b1'
  have b2 := slow_spec yT 4 yL1 none 3 (by decide) (by decide) hN hC hR1
  have f2 : lwM yT 4 yL1 3 = ⟨5, 100, 4611686018427387904, 100000, 0, 0, 10000, [], [], 0, 0, 0, 4611686018427387904, 4611686018427387904, 4611686018427387904, false⟩ := by kernel_rfl
  rw [f2] at b2
  have b3 := scheck_spec dfS (by decide) (by decide)
  have f3 : ckS dfS = true := by kernel_rfl
  rw [f3] at b3
  have b4 := sdef_spec
  clear f0 f1 f2 f3 hN hC hR0 hR1 e1 e2
  simp only [adV] at a1 a2
  generalize yL1 = L1 at *
  generalize yL0 = L0 at *
  generalize yT = T2 at *
  obtain ⟨T1, hT1⟩ : ∃ T : List Nd, [⟨1, 0, [], 0, 0, 0⟩, ⟨2, 1, [97], 0, 0, 0⟩] = T := ⟨_, rfl⟩
  rw [hT1] at a1 a2
  clear hT1
  simp only [sgt, sgc] at b1' b2 b3 b4
  refine fnspec_of mixed TT_ok TT_cl ⟨fun _ => false, fun _ => [], 0, fun _ => false, fun _ => false⟩ Try.func10 rfl (by kernel_rfl) rfl 47 rfl [.tmp 0] rfl ?_
  simp only [go_sem, zaa, zai, zaj, zak, zan, zah, ↓reduceIte, reduceCtorEq, zac, zad, zal, zao, zap]
  repeat' (first
 | with_reducible refine zat ?_ ?_
 | (unfold OKC; kernel_rfl)
 | (unfold EDG; kernel_rfl)
 | (apply cg_tp
    case hl => rfl
    case ha => (simp only [zae, zag, prepV, prepC, idx, hpL', lookR, zaa, if_true, if_false]; rfl)
    case hs => rfl
    case h => (first | exact trnew_spec .. | exact a1 .. | exact a2 .. | exact b0 .. | exact b1' .. | exact b2 .. | exact b3 .. | exact b4 ..))
 | (apply cl_plain
    case hs => rfl
    case ha => (simp only [zae, zag, prepV, prepC, idx, hpL', lookR, zaa, if_true, if_false]; rfl)
    case h => (first | exact trnew_spec .. | exact a1 .. | exact a2 .. | exact b0 .. | exact b1' .. | exact b2 .. | exact b3 .. | exact b4 ..))
 | ((first | refine s1_id ?_ | refine swp_id ?_ | refine sops_id ?_ | refine s2_id ?_); simp only [zaI, zaK, zam, zaL, zaM, zaG, zaH, zaF, zaQ, zaS, zaz, zaA, go_sem, zaa, zai, zaj, zak, zan, zah, ↓reduceIte, reduceCtorEq, zac, zad, zal, zao, zap, zaR, zaN, zaB, zaO, renO, bk, back, outUpsFrom, Ints_ren])
 | exact fs_nil trivial rfl
 | fail)
end Go.Proofs.Ytcnilpdlcmpbbab
-- NEWGO
-- PRUNE: cl_lendx cl_use
-- ISG: Cs_isG
-- FLAT: Cs_flat
namespace Go.Proofs.Ytcnilpdlcmpbbab
set_option linter.unusedVariables false
set_option linter.unusedSimpArgs false
open Go.Proofs.Ytcnilpdlcmpbbab.Sh
set_option maxRecDepth 20000
def wtV (l : List Int) (i : Nat) : Int := [1, 100, 300, 10000, 50, 200, 7, 1 + nxV l i 1000].getD (nxV l (nxA l i 1000) 8).toNat 0
def wtA (l : List Int) (i : Nat) : Nat := nxA l (nxA l i 1000) 8
theorem nxV_rng (l : List Int) (i : Nat) (n : Int) (h : 0 < n) : 0 ≤ nxV l i n ∧ nxV l i n < n := by
  unfold nxV
  split
  · omega
  · exact ⟨Int.emod_nonneg _ (by omega), Int.emod_lt_of_pos _ h⟩
theorem wtV_rng (l : List Int) (i : Nat) : 1 ≤ wtV l i ∧ wtV l i ≤ 10000 := by
  have h1 := nxV_rng l i 1000 (by omega)
  have h2 := nxV_rng l (nxA l i 1000) 8 (by omega)
  unfold wtV
  generalize nxV l (nxA l i 1000) 8 = a at *
  generalize nxV l i 1000 = b at *
  obtain ⟨k, rfl⟩ : ∃ k : Nat, a = k := ⟨a.toNat, by omega⟩
  rw [Int.toNat_natCast]
  rcases k with _ | _ | _ | _ | _ | _ | _ | _ | k <;> simp only [zaw, zax] <;> omega
theorem weight_spec (l : List Int) (i : Nat) (hl : l.length ≤ 600) (hr : ∀ x ∈ l, -9223372036854775808 ≤ x ∧ x ≤ 9223372036854775807) : FnSpec Try.prog 60 [dp] [dice l i] (i1 (wtV l i)) [some (dice l (wtA l i))] := by
  have h1 := nxV_rng l i 1000 (by omega)
  have h2 := nxV_rng l (nxA l i 1000) 8 (by omega)
  refine fnspec_of mixed TT_ok TT_cl ⟨fun _ => false, fun f => if f = 15 then [0] else [], 1, fun _ => false, fun _ => false⟩ Try.func60 rfl (by kernel_rfl) rfl 11 rfl [.tmp 2] rfl ?_
  simp only [go_sem, zaa, zai, zaj, zak, zan, zah, ↓reduceIte, reduceCtorEq, zac, zad, zal, zao, zap]
  repeat' (first
 | with_reducible refine zat ?_ ?_
 | (apply cl_lend
    case hr => (simp only [zae, zag, hpL', lookR, zaa, if_true, if_false]; first | exact map1 _ | exact map2 _ _ | exact map3 _ _ _)
    case ha => (simp only [zae, zag, prepV, prepC, idx, hpL', lookR, zaa, if_true, if_false]; rfl)
    case hs => rfl
    case hn => decide
    case h => (first | exact next_spec _ _ _ hl hr (by omega))
    case hf => (simp only [zab, zaf, false_implies, implies_true, and_true, true_and, flat_cons, flat_nil, flat_ints, flat_bools, flat_app, Cs_flat, zaP, and_self, eq_self_iff_true, zam])
    case hl => (simp only [zaz, zaA]; decide))
 | ((first | refine s1_id ?_ | refine swp_id ?_ | refine sops_id ?_ | refine s2_id ?_); simp only [go_sem, zaa, zai, zaj, zak, zan, zah, ↓reduceIte, reduceCtorEq, zac, zad, zal, zao, zap, zaR, zaN, zaB, zaO, renO, bk, back, outUpsFrom, Ints_ren])
 | (intros; omega)
 | (intros; (try simp only [zav, zay, zau, zas, zaq, zar, decide_eq_true_eq, decide_eq_false_iff_not] at *); omega))
  (refine fs_flat [(0, dice l (wtA l i))] (by simp) (by simp only [zae, zag]; decide) (by simp only [go_sem, resV, resS, zaR, zaN, zaB, zaU, zaT, idx, renO, zaO, evS, slot, lookR, zaa, ↓reduceIte, reduceCtorEq, if_true, if_false, zaC, zaD, zae, zag, sLoad, readAt, readNeed, Ints_ren, Ints_length, Ints_getD, and_true, true_and, zaw, zax]; try decide) ?_ (by simp only [zab, zaf, false_implies, implies_true, and_true, zaT, lookR, zaa, if_true, if_false, ↓reduceIte, dice] <;> (repeat' apply zat) <;> (first | rfl | trivial)) (by simp only [zab, zaf, false_implies, implies_true, and_true, true_and, flat_cons, flat_nil, flat_ints, flat_bools, flat_app, zaP, and_self, eq_self_iff_true, zam, dice]) ?_ <;> (try simp only [go_sem, resV, resS, zaR, zaN, zaB, zaU, zaT, idx, renO, zaO, evS, slot, lookR, zaa, ↓reduceIte, reduceCtorEq, if_true, if_false, zaC, zaD, zae, zag, sLoad, readAt, readNeed, Ints_ren, Ints_length, Ints_getD, and_true, true_and, zaw, zax]) <;> (try rfl))
end Go.Proofs.Ytcnilpdlcmpbbab
-- NEWGO
-- PRUNE: cl_lendx cl_use
-- ISG: Cs_isG
-- FLAT: Cs_flat
namespace Go.Proofs.Ytcnilpdlcmpbbab
set_option linter.unusedVariables false
set_option linter.unusedSimpArgs false
open Go.Proofs.Ytcnilpdlcmpbbab.Sh
set_option maxRecDepth 20000
def pmS (D : List Int) (j : Nat) : Int × Nat := if nxV D j 2 = 1 then (nxV D (nxA D j 2) 6, nxA D (nxA D j 2) 6) else (4611686018427387904, nxA D j 2)
def quS (D : List Int) (j : Nat) : (Int × Int) × Nat := if nxV D j 2 = 1 then ((1 + nxV D (nxA D j 2) 9, nxV D (nxA D (nxA D j 2) 9) (1 + nxV D (nxA D j 2) 9 + 1)), nxA D (nxA D (nxA D j 2) 9) (1 + nxV D (nxA D j 2) 9 + 1)) else ((4611686018427387904, 0), nxA D j 2)
def lsS (D : List Int) (j n : Nat) : List Int × Nat := if nxV D j 2 = 1 then dSet D (nxA D j 2) n else ([], nxA D j 2)
def ptS (D : List Int) (j : Nat) : Int × Nat := (if nxV D j 3 = 2 then 1 else 0, nxA D j 3)
def mk1 (D : List Int) (j : Nat) : (Int × Int) × Nat := quS D (wtA D (pmS D j).2)
def mk2 (D : List Int) (j : Nat) : Nat := nxA D (nxA D (nxA D (mk1 D j).2 9) 10001) 10001
def mk3 (D : List Int) (j : Nat) : List Int × Nat := lsS D (mk2 D j) 6
def mk4 (D : List Int) (j : Nat) : List Int × Nat := lsS D (mk3 D j).2 4
def mkS (D : List Int) (j : Nat) : Sg × Nat := (⟨(pmS D j).1, wtV D (pmS D j).2, (mk1 D j).1.1, 1 + nxV D (mk1 D j).2 9, (mk1 D j).1.2, nxV D (nxA D (mk1 D j).2 9) 10001, nxV D (nxA D (nxA D (mk1 D j).2 9) 10001) 10001, (mk3 D j).1, (mk4 D j).1, (ptS D (mk4 D j).2).1, 0, 0, 4611686018427387904, 4611686018427387904, 4611686018427387904, false⟩, (ptS D (mk4 D j).2).2)
def lendS : FuncId → List Nat := fun f => if f = 15 then [0] else if f = 32 then [0] else if f = 60 then [0] else if f = 61 then [0] else []
section
variable (D : List Int) (hl : D.length ≤ 600) (hr : ∀ x ∈ D, -9223372036854775808 ≤ x ∧ x ≤ 9223372036854775807) (j : Nat)
include hl hr
theorem pm_cs : ∃ B v j1 j2, pmS D j = (v, j2) ∧ FnSpec Try.prog 32 [dp, i1 2] [dice D j] (b1 B) [some (dice D j1)] ∧ ((B = true ∧ FnSpec Try.prog 15 [dp, i1 6] [dice D j1] (i1 v) [some (dice D j2)]) ∨ (B = false ∧ v = 4611686018427387904 ∧ j2 = j1)) := by
  have n1 := bool_spec D j 2 hl hr (by decide)
  unfold pmS
  by_cases hv : nxV D j 2 = 1
  · rw [decide_eq_true (by omega : nxV D j 2 = 2 - 1)] at n1
    rw [if_pos hv]
    exact ⟨_, _, _, _, rfl, n1, .inl ⟨rfl, next_spec D _ 6 hl hr (by decide)⟩⟩
  · rw [decide_eq_false (by omega : ¬ nxV D j 2 = 2 - 1)] at n1
    rw [if_neg hv]
    exact ⟨_, _, _, _, rfl, n1, .inr ⟨rfl, rfl, rfl⟩⟩
theorem qu_cs : ∃ B q b j1 j4, quS D j = ((q, b), j4) ∧ FnSpec Try.prog 32 [dp, i1 2] [dice D j] (b1 B) [some (dice D j1)] ∧ ((B = true ∧ ∃ v j2, (0 ≤ v ∧ v < 9) ∧ q = 1 + v ∧ FnSpec Try.prog 15 [dp, i1 9] [dice D j1] (i1 v) [some (dice D j2)] ∧ FnSpec Try.prog 15 [dp, i1 (1 + v + 1)] [dice D j2] (i1 b) [some (dice D j4)]) ∨ (B = false ∧ q = 4611686018427387904 ∧ b = 0 ∧ j4 = j1)) := by
  have n1 := bool_spec D j 2 hl hr (by decide)
  unfold quS
  by_cases hv : nxV D j 2 = 1
  · rw [decide_eq_true (by omega : nxV D j 2 = 2 - 1)] at n1
    rw [if_pos hv]
    have r := nxV_rng D (nxA D j 2) 9 (by decide)
    exact ⟨_, _, _, _, _, rfl, n1, .inl ⟨rfl, _, _, r, rfl, next_spec D _ 9 hl hr (by decide), next_spec D _ _ hl hr (by omega)⟩⟩
  · rw [decide_eq_false (by omega : ¬ nxV D j 2 = 2 - 1)] at n1
    rw [if_neg hv]
    exact ⟨_, _, _, _, _, rfl, n1, .inr ⟨rfl, rfl, rfl, rfl⟩⟩
theorem ls_cs (n : Nat) (hn : n ≤ 1000) : ∃ B A j1 j2, lsS D j n = (A, j2) ∧ FnSpec Try.prog 32 [dp, i1 2] [dice D j] (b1 B) [some (dice D j1)] ∧ ((B = true ∧ FnSpec Try.prog 61 [dp, i1 n] [dice D j1] (gi A none) [some (dice D j2)]) ∨ (B = false ∧ A = [] ∧ j2 = j1)) := by
  have n1 := bool_spec D j 2 hl hr (by decide)
  unfold lsS
  by_cases hv : nxV D j 2 = 1
  · rw [decide_eq_true (by omega : nxV D j 2 = 2 - 1)] at n1
    rw [if_pos hv]
    exact ⟨_, _, _, _, rfl, n1, .inl ⟨rfl, dset_spec D _ n hn hl hr⟩⟩
  · rw [decide_eq_false (by omega : ¬ nxV D j 2 = 2 - 1)] at n1
    rw [if_neg hv]
    exact ⟨_, _, _, _, rfl, n1, .inr ⟨rfl, rfl, rfl⟩⟩
theorem pt_cs : ∃ B p j1, ptS D j = (p, j1) ∧ FnSpec Try.prog 32 [dp, i1 3] [dice D j] (b1 B) [some (dice D j1)] ∧ ((B = true ∧ p = 1) ∨ (B = false ∧ p = 0)) := by
  have n1 := bool_spec D j 3 hl hr (by decide)
  unfold ptS
  by_cases hv : nxV D j 3 = 2
  · rw [decide_eq_true (by omega : nxV D j 3 = 3 - 1)] at n1
    rw [if_pos hv]
    exact ⟨_, _, _, rfl, n1, .inl ⟨rfl, rfl⟩⟩
  · rw [decide_eq_false (by omega : ¬ nxV D j 3 = 3 - 1)] at n1
    rw [if_neg hv]
    exact ⟨_, _, _, rfl, n1, .inr ⟨rfl, rfl⟩⟩
end
set_option maxHeartbeats 64000000 in
theorem dsettings_spec (D : List Int) (hl : D.length ≤ 600) (hr : ∀ x ∈ D, -9223372036854775808 ≤ x ∧ x ≤ 9223372036854775807) (j : Nat) : FnSpec Try.prog 24 [dp] [dice D j] (sgt (mkS D j).1) [some (dice D (mkS D j).2)] := by
  have n0 := srdef_spec
  simp only [sgt, sgc] at n0
  simp only [mkS, mk4, mk3, mk2, mk1]
  obtain ⟨B1, v1, j1, j2, e1, n1, d1⟩ := pm_cs D hl hr j
  rw [e1]
  simp only
  have n2 := weight_spec D j2 hl hr
  generalize wtV D j2 = w at *
  generalize wtA D j2 = j3 at *
  obtain ⟨B2, q, b, j4, j7, e2, n3, d2⟩ := qu_cs D hl hr j3
  rw [e2]
  simp only
  have n4 := next_spec D j7 9 hl hr (by decide)
  have r4 := nxV_rng D j7 9 (by decide)
  generalize nxV D j7 9 = v4 at *
  generalize nxA D j7 9 = j8 at *
  have n5 := next_spec D j8 10001 hl hr (by decide)
  generalize nxV D j8 10001 = v5 at *
  generalize nxA D j8 10001 = j9 at *
  have n6 := next_spec D j9 10001 hl hr (by decide)
  generalize nxV D j9 10001 = v6 at *
  generalize nxA D j9 10001 = ja at *
  obtain ⟨B3, A1, jb, jc, e3, n7, d3⟩ := ls_cs D hl hr ja 6 (by decide)
  rw [e3]
  simp only
  obtain ⟨B4, A2, jd, je, e4, n8, d4⟩ := ls_cs D hl hr jc 4 (by decide)
  rw [e4]
  simp only
  obtain ⟨B5, p, jf, e5, n9, d5⟩ := pt_cs D hl hr je
  rw [e5]
  simp only [sgt, sgc]
  clear e1 e2 e3 e4 e5 hl hr
  rcases d1 with ⟨rfl, m1⟩ | ⟨rfl, rfl, rfl⟩
  all_goals rcases d2 with ⟨rfl, v2, j5, r2, rfl, m2, m3⟩ | ⟨rfl, rfl, rfl, rfl⟩
  all_goals rcases d3 with ⟨rfl, m4⟩ | ⟨rfl, rfl, rfl⟩
  all_goals rcases d4 with ⟨rfl, m5⟩ | ⟨rfl, rfl, rfl⟩
  all_goals rcases d5 with ⟨rfl, rfl⟩ | ⟨rfl, rfl⟩
  all_goals (
    refine fnspec_of mixed TT_ok TT_cl ⟨fun _ => false, lendS, 1, fun _ => false, fun _ => false⟩ Try.func24 rfl (by kernel_rfl) rfl 49 rfl [.cell 2 47] rfl ?_
    simp only [go_sem, zaa, zai, zaj, zak, zan, zah, ↓reduceIte, reduceCtorEq, zac, zad, zal, zao, zap, lendS]
    repeat' (first
 | with_reducible refine zat ?_ ?_
 | (apply cl_plain
    case hs => rfl
    case ha => (simp only [zae, zag, prepV, prepC, idx, hpL', lookR, zaa, if_true, if_false]; rfl)
    case h => (first | assumption))
 | (apply cl_lend
    case hr => (simp only [zae, zag, hpL', lookR, zaa, if_true, if_false]; first | exact map1 _ | exact map2 _ _ | exact map3 _ _ _)
    case ha => (simp only [zae, zag, prepV, prepC, idx, hpL', lookR, zaa, if_true, if_false]; rfl)
    case hs => rfl
    case hn => decide
    case h => (first | assumption)
    case hf => (simp only [zab, zaf, false_implies, implies_true, and_true, true_and, flat_cons, flat_nil, flat_ints, flat_bools, flat_app, Cs_flat, zaP, and_self, eq_self_iff_true, zam])
    case hl => (simp only [zaz, zaA]; decide))
 | ((first | refine s1_id ?_ | refine swp_id ?_ | refine sops_id ?_ | refine s2_id ?_); simp only [lendS, dice, zaI, zaK, zam, zaL, zaM, zaG, zaH, zaF, zaQ, zaS, zaz, zaA, go_sem, zaa, zai, zaj, zak, zan, zah, ↓reduceIte, reduceCtorEq, zac, zad, zal, zao, zap, zaR, zaN, zaB, zaO, renO, bk, back, outUpsFrom, Ints_ren])
 | (intros; omega)
 | (intros; (try simp only [zav, zay, zau, zas, zaq, zar, decide_eq_true_eq, decide_eq_false_iff_not] at *); omega))
    (refine fs_flat [(0, dice D jf)] (by simp) (by simp only [zae, zag]; decide) (by simp only [go_sem, resV, resS, zaR, zaN, zaB, zaU, zaT, idx, renO, zaO, evS, slot, lookR, zaa, ↓reduceIte, reduceCtorEq, if_true, if_false, zaC, zaD, zae, zag, sLoad, readAt, readNeed, Ints_ren, Ints_length, Ints_getD, and_true, true_and, zaw, zax]; try decide) ?_ (by simp only [zab, zaf, false_implies, implies_true, and_true, zaT, lookR, zaa, if_true, if_false, ↓reduceIte, dice] <;> (repeat' apply zat) <;> (first | rfl | trivial)) (by simp only [zab, zaf, false_implies, implies_true, and_true, true_and, flat_cons, flat_nil, flat_ints, flat_bools, flat_app, zaP, and_self, eq_self_iff_true, zam, dice]) ?_ <;> (try simp only [go_sem, resV, resS, zaR, zaN, zaB, zaU, zaT, idx, renO, zaO, evS, slot, lookR, zaa, ↓reduceIte, reduceCtorEq, if_true, if_false, zaC, zaD, zae, zag, sLoad, readAt, readNeed, Ints_ren, Ints_length, Ints_getD, and_true, true_and, zaw, zax]) <;> (try rfl)))
end Go.Proofs.Ytcnilpdlcmpbbab
-- NEWGO
-- PRUNE: cl_lendx cl_use
-- ISG: Cs_isG
-- FLAT: Cs_flat
namespace Go.Proofs.Ytcnilpdlcmpbbab
set_option linter.unusedVariables false
set_option linter.unusedSimpArgs false
open Go.Proofs.Ytcnilpdlcmpbbab.Sh
set_option maxRecDepth 20000
def cfS (D : List Int) (j : Nat) : Sg × Nat := if nxV D j 2 = 1 then mkS D (nxA D j 2) else (dfS, nxA D j 2)
def cfA (D : List Int) : List Nd → Nat → List Cf → List Cf × Nat
  | [], j, acc => (acc, j)
  | x :: r, j, acc => cfA D r (cfS D j).2 (acc ++ [⟨x.i, (cfS D j).1⟩])
def mkC (D : List Int) (l : List Nd) (j : Nat) : List Cf × Nat := cfA D l j []
theorem cf_cs (D : List Int) (hl : D.length ≤ 600) (hr : ∀ x ∈ D, -9223372036854775808 ≤ x ∧ x ≤ 9223372036854775807) (j : Nat) : ∃ B s j1 j2, cfS D j = (s, j2) ∧ FnSpec Try.prog 32 [dp, i1 2] [dice D j] (b1 B) [some (dice D j1)] ∧ ((B = true ∧ FnSpec Try.prog 24 [dp] [dice D j1] (sgt s) [some (dice D j2)]) ∨ (B = false ∧ s = dfS ∧ j2 = j1)) := by
  have n1 := bool_spec D j 2 hl hr (by decide)
  unfold cfS
  by_cases hv : nxV D j 2 = 1
  · rw [decide_eq_true (by omega : nxV D j 2 = 2 - 1)] at n1
    rw [if_pos hv]
    exact ⟨_, _, _, _, rfl, n1, .inl ⟨rfl, dsettings_spec D hl hr _⟩⟩
  · rw [decide_eq_false (by omega : ¬ nxV D j 2 = 2 - 1)] at n1
    rw [if_neg hv]
    exact ⟨_, _, _, _, rfl, n1, .inr ⟨rfl, rfl, rfl⟩⟩
def lendC : FuncId → List Nat := fun f => if f = 32 then [0] else if f = 24 then [0] else []
set_option maxHeartbeats 16000000 in
theorem dconfigs_spec (D : List Int) (hl : D.length ≤ 600) (hr : ∀ x ∈ D, -9223372036854775808 ≤ x ∧ x ≤ 9223372036854775807) (l : List Nd) (n : Int) (hL : l.length ≤ 1000000) (j : Nat) : FnSpec Try.prog 13 [dp, trV l none n] [dice D j] (gr (mkC D l j).1 none) [some (dice D (mkC D l j).2)] := by
  have n0 := srdef_spec
  simp only [sgt, sgc] at n0
  have hnl := nd_len l
  obtain ⟨T, hT⟩ : ∃ T, mkC D l j = T := ⟨_, rfl⟩
  rw [hT]
  obtain ⟨R, J⟩ := T
  unfold mkC at hT
  simp only
  refine fnspec_of mixed TT_ok TT_cl ⟨fun _ => false, lendC, 1, fun _ => false, fun _ => false⟩ Try.func13 rfl (by kernel_rfl) rfl 32 rfl [.tmp 4] rfl ?_
  simp only [go_sem, zaa, zai, zaj, zak, zan, zah, ↓reduceIte, reduceCtorEq, zac, zad, zal, zao, zap, lendC]
  repeat' (first
 | (intros; (try simp only [zav, zay, zau, zas, zaq, zar, decide_eq_true_eq, decide_eq_false_iff_not] at *); omega))
  refine w_loop (ι := Nat × List Cf × Nat) (fun s => ⟨[(0, dp), (3, .one (.optr 1 0)), (5, .one (.osl 2 0 s.1 none)), (6, i1 s.1)], [(0, some (dice D s.2.2)), (1, some ⟨[.gsl (Cs l) 0 l.length none, int n], 2⟩), (2, some ⟨Cs s.2.1, 18⟩)], 3⟩) (fun s => s.1 ≤ l.length ∧ s.2.1.length = s.1 ∧ cfA D (l.drop s.1) s.2.2 s.2.1 = (R, J)) (fun s => l.length - s.1) (0, [], j) ?_ ⟨zaW _, rfl, hT⟩ ?_
  · (refine Imp.trans (imp_nilA _ _ 5 18 99 (by simp only []; omega) rfl) ?_)
    (refine imp_ren _ _ _ [(0, 0, dice D j), (1, 1, ⟨[.gsl (Cs l) 0 l.length none, int n], 2⟩), (2, 99, ⟨[], 18⟩)] (by simp) (by simp) (by simp) (zaE rfl) ?_ rfl (by simp only [zab, zaf, false_implies, implies_true, and_true, zaT, lookR, zaa, if_true, if_false, ↓reduceIte, dice] <;> (repeat' apply zat) <;> (first | rfl | trivial)) (by simp only [zab, zaf, false_implies, implies_true, and_true, true_and, flat_cons, flat_nil, flat_ints, flat_bools, flat_app, zaP, and_self, eq_self_iff_true, zam, dice]); simp only [zae, zag, zab, zaf, false_implies, implies_true, and_true, lk, slot, zaR, zaB, toN, zaa, if_true, if_false, ↓reduceIte, reduceCtorEq])
    all_goals ((repeat' apply zat) <;> (first | rfl | trivial))
  clear hT
  rintro ⟨m, acc, j0⟩ ⟨hm, ha, hI⟩
  simp only at hm ha hI ⊢
  rcases zaX m l.length with hlt | hge
  case inr =>
    have c : ¬ (m : Int) < (l.length : Int) := by omega
    obtain rfl : m = l.length := by omega
    rw [List.drop_length, cfA] at hI
    obtain ⟨rfl, rfl⟩ := Prod.mk.inj hI
    simp only [go_sem, zaa, zai, zaj, zak, zan, zah, ↓reduceIte, reduceCtorEq, zac, zad, zal, zao, zap, decide_eq_false c, lendC]
    repeat' (first
 | (intros; (try simp only [zav, zay, zau, zas, zaq, zar, decide_eq_true_eq, decide_eq_false_iff_not] at *); omega))
    rw [show gr acc none = SV.one (.gsl (Cs acc) 0 l.length none) from by rw [← ha]]
    (refine fs_frz 2 ⟨Cs acc, 18⟩ (by simp only [zaT, lookR, zaa, if_true, if_false, ↓reduceIte]) (by first | exact Ints_isG _ | exact Bools_isG _ | exact Cs_isG _ | (simp [Cell.isG]; done)) ?_; simp only [frzTm, SV.frz, SV.frzL, Cell.frz, frzHp, frzO, Ints_frz, Bools_frz, zae, zag, zaa, if_true, if_false, ↓reduceIte])
    (refine fs_flat [(0, dice D j0)] (by simp) (by simp only [zae, zag]; decide) (by simp only [go_sem, resV, resS, zaR, zaN, zaB, zaU, zaT, idx, renO, zaO, evS, slot, lookR, zaa, ↓reduceIte, reduceCtorEq, if_true, if_false, zaC, zaD, zae, zag, sLoad, readAt, readNeed, Ints_ren, Ints_length, Ints_getD, and_true, true_and, zaw, zax]; try decide) ?_ (by simp only [zab, zaf, false_implies, implies_true, and_true, zaT, lookR, zaa, if_true, if_false, ↓reduceIte, dice] <;> (repeat' apply zat) <;> (first | rfl | trivial)) (by simp only [zab, zaf, false_implies, implies_true, and_true, true_and, flat_cons, flat_nil, flat_ints, flat_bools, flat_app, zaP, and_self, eq_self_iff_true, zam, dice]) ?_ <;> (try simp only [go_sem, resV, resS, zaR, zaN, zaB, zaU, zaT, idx, renO, zaO, evS, slot, lookR, zaa, ↓reduceIte, reduceCtorEq, if_true, if_false, zaC, zaD, zae, zag, sLoad, readAt, readNeed, Ints_ren, Ints_length, Ints_getD, and_true, true_and, zaw, zax]) <;> (try rfl))
  have c : (m : Int) < (l.length : Int) := by omega
  obtain ⟨q1, _⟩ := nd_f l m hlt (.sc (.int .i64 0))
  rw [drop_getD l m zn hlt, cfA] at hI
  change cfA D (l.drop (m + 1)) (cfS D j0).2 (acc ++ [⟨(gN l m).i, (cfS D j0).1⟩]) = (R, J) at hI
  obtain ⟨B, s, j1, j2, e1, n1, d1⟩ := cf_cs D hl hr j0
  rw [e1] at hI
  simp only at hI
  have hla : (acc ++ [(⟨(gN l m).i, s⟩ : Cf)]).length = m + 1 := by rw [List.length_append, ha]; rfl
  have hS : Cs acc ++ (int (gN l m).i :: sgc s) = Cs (acc ++ [(⟨(gN l m).i, s⟩ : Cf)]) := Cs_snoc acc (⟨(gN l m).i, s⟩ : Cf)
  have htk : List.take (m * 18) (Cs acc) = Cs acc := Cs_all _ _ (by rw [ha]; exact zbc _)
  have hpt := cf_len acc
  rw [ha] at hpt
  generalize acc ++ [(⟨(gN l m).i, s⟩ : Cf)] = W at *
  generalize (gN l m).i = id' at *
  clear e1 hl hr
  rcases d1 with ⟨rfl, m1⟩ | ⟨rfl, rfl, rfl⟩
  · obtain ⟨pm, w, q, pe, b, c0, c1, cp, mm, pt, m0, m1', m2, m3, m4, mt⟩ := s
    simp only [sgc, sgt] at m1 hS
    simp only [go_sem, zaa, zai, zaj, zak, zan, zah, ↓reduceIte, reduceCtorEq, zac, zad, zal, zao, zap, decide_eq_true c, q1, hS, lendC]
    repeat' (first
 | with_reducible refine zat ?_ ?_
 | (unfold OKC; kernel_rfl)
 | (unfold EDG; kernel_rfl)
 | (apply cl_plain
    case hs => rfl
    case ha => (simp only [zae, zag, prepV, prepC, idx, hpL', lookR, zaa, if_true, if_false]; rfl)
    case h => (first | exact n0 .. | exact n1 .. | exact m1 ..))
 | (apply cl_lend
    case hr => (simp only [zae, zag, hpL', lookR, zaa, if_true, if_false]; first | exact map1 _ | exact map2 _ _ | exact map3 _ _ _)
    case ha => (simp only [zae, zag, prepV, prepC, idx, hpL', lookR, zaa, if_true, if_false]; rfl)
    case hs => rfl
    case hn => decide
    case h => (first | exact n0 .. | exact n1 .. | exact m1 ..)
    case hf => (simp only [zab, zaf, false_implies, implies_true, and_true, true_and, flat_cons, flat_nil, flat_ints, flat_bools, flat_app, Cs_flat, zaP, and_self, eq_self_iff_true, zam])
    case hl => (simp only [zaz, zaA]; decide))
 | ((first | refine s1_id ?_ | refine swp_id ?_ | refine sops_id ?_ | refine s2_id ?_); simp only [decide_eq_true c, q1, hS, htk, lendC, dice, zaI, zaK, zam, zaL, zaM, zaG, zaH, zaF, zaQ, zaS, zaz, zaA, go_sem, zaa, zai, zaj, zak, zan, zah, ↓reduceIte, reduceCtorEq, zac, zad, zal, zao, zap, zaR, zaN, zaB, zaO, renO, bk, back, outUpsFrom, Ints_ren])
 | (intros; omega)
 | (intros; (try simp only [zav, zay, zau, zas, zaq, zar, decide_eq_true_eq, decide_eq_false_iff_not] at *); omega))
    refine le_mk (m + 1, W, j2) ?_ ⟨hlt, hla, hI⟩ (by show l.length - (m + 1) < l.length - m; omega)
    (refine imp_ren _ _ _ [(0, 0, dice D j2), (1, 1, ⟨[.gsl (Cs l) 0 l.length none, int n], 2⟩), (2, 26, ⟨Cs W, 18⟩)] (by simp) (by simp) (by simp) (zaE rfl) ?_ rfl (by simp only [zab, zaf, false_implies, implies_true, and_true, zaT, lookR, zaa, if_true, if_false, ↓reduceIte, dice, Cs_flat] <;> (repeat' apply zat) <;> (first | rfl | trivial)) (by simp only [zab, zaf, false_implies, implies_true, and_true, true_and, flat_cons, flat_nil, flat_ints, flat_bools, flat_app, zaP, and_self, eq_self_iff_true, zam, dice, Cs_flat]); simp only [zae, zag, zab, zaf, false_implies, implies_true, and_true, lk, slot, zaR, zaB, toN, zaa, if_true, if_false, ↓reduceIte, reduceCtorEq])
    all_goals ((repeat' apply zat) <;> (first | rfl | trivial | (simp only [zaJ]; done) | (simp only [zaJ]; rfl) | (simp only [zaJ]; trivial)))
  · simp only [sgc, zaA] at hS n0
    simp only [go_sem, zaa, zai, zaj, zak, zan, zah, ↓reduceIte, reduceCtorEq, zac, zad, zal, zao, zap, decide_eq_true c, q1, hS, lendC]
    repeat' (first
 | with_reducible refine zat ?_ ?_
 | (unfold OKC; kernel_rfl)
 | (unfold EDG; kernel_rfl)
 | (apply cl_plain
    case hs => rfl
    case ha => (simp only [zae, zag, prepV, prepC, idx, hpL', lookR, zaa, if_true, if_false]; rfl)
    case h => (first | exact n0 .. | exact n1 ..))
 | (apply cl_lend
    case hr => (simp only [zae, zag, hpL', lookR, zaa, if_true, if_false]; first | exact map1 _ | exact map2 _ _ | exact map3 _ _ _)
    case ha => (simp only [zae, zag, prepV, prepC, idx, hpL', lookR, zaa, if_true, if_false]; rfl)
    case hs => rfl
    case hn => decide
    case h => (first | exact n0 .. | exact n1 ..)
    case hf => (simp only [zab, zaf, false_implies, implies_true, and_true, true_and, flat_cons, flat_nil, flat_ints, flat_bools, flat_app, Cs_flat, zaP, and_self, eq_self_iff_true, zam])
    case hl => (simp only [zaz, zaA]; decide))
 | ((first | refine s1_id ?_ | refine swp_id ?_ | refine sops_id ?_ | refine s2_id ?_); simp only [decide_eq_true c, q1, hS, htk, lendC, dice, zaI, zaK, zam, zaL, zaM, zaG, zaH, zaF, zaQ, zaS, zaz, zaA, go_sem, zaa, zai, zaj, zak, zan, zah, ↓reduceIte, reduceCtorEq, zac, zad, zal, zao, zap, zaR, zaN, zaB, zaO, renO, bk, back, outUpsFrom, Ints_ren])
 | (intros; omega)
 | (intros; (try simp only [zav, zay, zau, zas, zaq, zar, decide_eq_true_eq, decide_eq_false_iff_not] at *); omega))
    refine le_mk (m + 1, W, j2) ?_ ⟨hlt, hla, hI⟩ (by show l.length - (m + 1) < l.length - m; omega)
    (refine imp_ren _ _ _ [(0, 0, dice D j2), (1, 1, ⟨[.gsl (Cs l) 0 l.length none, int n], 2⟩), (2, 23, ⟨Cs W, 18⟩)] (by simp) (by simp) (by simp) (zaE rfl) ?_ rfl (by simp only [zab, zaf, false_implies, implies_true, and_true, zaT, lookR, zaa, if_true, if_false, ↓reduceIte, dice, Cs_flat] <;> (repeat' apply zat) <;> (first | rfl | trivial)) (by simp only [zab, zaf, false_implies, implies_true, and_true, true_and, flat_cons, flat_nil, flat_ints, flat_bools, flat_app, zaP, and_self, eq_self_iff_true, zam, dice, Cs_flat]); simp only [zae, zag, zab, zaf, false_implies, implies_true, and_true, lk, slot, zaR, zaB, toN, zaa, if_true, if_false, ↓reduceIte, reduceCtorEq])
    all_goals ((repeat' apply zat) <;> (first | rfl | trivial | (simp only [zaJ]; done) | (simp only [zaJ]; rfl) | (simp only [zaJ]; trivial)))
end Go.Proofs.Ytcnilpdlcmpbbab
-- NEWGO
-- PRUNE: cl_lendx cl_use
-- ISG: Cs_isG
-- FLAT: Cs_flat
namespace Go.Proofs.Ytcnilpdlcmpbbab
set_option linter.unusedVariables false
set_option linter.unusedSimpArgs false
open Go.Proofs.Ytcnilpdlcmpbbab.Sh
set_option maxRecDepth 20000
theorem vl_set (D : List Int) (j n : Nat) (N : Int) (h : (n : Int) ≤ N) : vl (dSet D j n).1 N = true := by
  rw [vl_iff]
  intro i hi
  have h1 := dSet_rng D j n _ (getD_mem _ i 0 hi)
  refine ⟨h1.1, by omega, fun h0 => ?_⟩
  have h2 := dSet_asc D j n
  rw [List.pairwise_iff_getElem] at h2
  have := h2 (i - 1) i (by omega) hi (by omega)
  rw [getD_at _ (i - 1) 0 (by omega), getD_at _ i 0 hi]
  exact this
theorem lsS_ok (D : List Int) (j n : Nat) (N : Int) (h : (n : Int) ≤ N) : vl (lsS D j n).1 N = true ∧ (lsS D j n).1.length ≤ n := by
  unfold lsS
  split
  · exact ⟨vl_set D _ n N h, dSet_len D _ n⟩
  · exact ⟨(vl_iff _ _).2 fun i hi => absurd hi (Nat.not_lt_zero _), zaW _⟩
theorem pmS_ok (D : List Int) (j : Nat) : (wn (pmS D j).1 0 1099511627776 || decide ((pmS D j).1 = 4611686018427387904)) = true := by
  have h := nxV_rng D (nxA D j 2) 6 (by decide)
  unfold pmS wn
  split
  · rw [decide_eq_true (by simp only; omega), decide_eq_true (by simp only; omega)]; rfl
  · rfl
theorem quS_ok (D : List Int) (j : Nat) (x : Sg) (hp : wn x.pe 1 1000000 = true) (hq : x.q = (quS D j).1.1) (hb : x.b = (quS D j).1.2) : cbF x = true := by
  have h := nxV_rng D (nxA D j 2) 9 (by decide)
  have h3 := nxV_rng D (nxA D (nxA D j 2) 9) (1 + nxV D (nxA D j 2) 9 + 1) (by omega)
  unfold cbF
  rw [hp, hq, hb, zbb]
  unfold quS
  split
  · simp only
    rw [if_neg (by omega)]
    unfold wn
    rw [decide_eq_true (by omega), decide_eq_true (by omega), decide_eq_true (by omega), decide_eq_true (by omega)]; rfl
  · rw [if_pos rfl]; rfl
theorem ptS_ok (D : List Int) (j : Nat) : (decide ((ptS D j).1 = 0) || decide ((ptS D j).1 = 1)) = true := by
  unfold ptS
  simp only
  split <;> rfl
theorem mkS_ok (D : List Int) (j : Nat) : ckS (mkS D j).1 = true ∧ SgR (mkS D j).1 := by
  have w1 := wtV_rng D (pmS D j).2
  have w4 := nxV_rng D (mk1 D j).2 9 (by decide)
  have w5 := nxV_rng D (nxA D (mk1 D j).2 9) 10001 (by decide)
  have w6 := nxV_rng D (nxA D (nxA D (mk1 D j).2 9) 10001) 10001 (by decide)
  have l3 := lsS_ok D (mk2 D j) 6 16 (by decide)
  have l4 := lsS_ok D (mk3 D j).2 4 8 (by decide)
  have hpe : wn (1 + nxV D (mk1 D j).2 9) 1 1000000 = true := by unfold wn; rw [decide_eq_true (by omega), decide_eq_true (by omega)]; rfl
  refine ⟨?_, ?_, ?_⟩
  · have hcb : cbF (mkS D j).1 = true := quS_ok D _ _ hpe rfl rfl
    have hcm : cmF (mkS D j).1 = true := rfl
    unfold ckS
    rw [hcb, hcm]
    show ((wn (pmS D j).1 0 1099511627776 || decide ((pmS D j).1 = 4611686018427387904)) && (wn (wtV D (pmS D j).2) 1 10000 && (true && (wn (nxV D (nxA D (mk1 D j).2 9) 10001) 0 10000 && (wn (nxV D (nxA D (nxA D (mk1 D j).2 9) 10001) 10001) 0 10000 && (vl (mk3 D j).1 16 && (vl (mk4 D j).1 8 && ((decide ((ptS D (mk4 D j).2).1 = 0) || decide ((ptS D (mk4 D j).2).1 = 1)) && true)))))))) = true
    rw [pmS_ok, ptS_ok, show vl (mk3 D j).1 16 = true from l3.1, show vl (mk4 D j).1 8 = true from l4.1]
    unfold wn
    rw [decide_eq_true (by omega), decide_eq_true (by omega), decide_eq_true (by omega), decide_eq_true (by omega), decide_eq_true (by omega), decide_eq_true (by omega)]; rfl
  · exact Nat.le_trans l3.2 (by decide)
  · exact Nat.le_trans l4.2 (by decide)
theorem dfS_ok : ckS dfS = true ∧ SgR dfS := ⟨by decide +kernel, dfS_r⟩
theorem cfS_ok (D : List Int) (j : Nat) : ckS (cfS D j).1 = true ∧ SgR (cfS D j).1 := by
  unfold cfS
  split
  · exact mkS_ok D _
  · exact dfS_ok
theorem cfA_ok (D : List Int) : ∀ (r : List Nd) (j : Nat) (acc : List Cf), ∃ X, (cfA D r j acc).1 = acc ++ X ∧ X.length = r.length ∧ (∀ i, i < r.length → (gCf X i).g = (gN r i).i) ∧ ∀ x ∈ X, ckS x.s = true ∧ SgR x.s
  | [], j, acc => ⟨[], (zam _).symm, rfl, fun i hi => absurd hi (Nat.not_lt_zero _), fun x hx => by cases hx⟩
  | y :: r, j, acc => by
    obtain ⟨X, h1, h2, h3, h4⟩ := cfA_ok D r (cfS D j).2 (acc ++ [⟨y.i, (cfS D j).1⟩])
    refine ⟨⟨y.i, (cfS D j).1⟩ :: X, ?_, by simp [h2], ?_, ?_⟩
    · rw [cfA, h1, List.append_assoc]; rfl
    · intro i hi
      cases i with
      | zero => rfl
      | succ i => exact h3 i (by simpa using hi)
    · intro x hx
      rcases List.mem_cons.1 hx with rfl | hx
      · exact cfS_ok D j
      · exact h4 x hx
theorem mkC_ok (D : List Int) {l : List Nd} {n : Int} (hV : VT l n) (j : Nat) : FiP l n (mkC D l j).1 ∧ CfR (mkC D l j).1 := by
  obtain ⟨X, h1, h2, h3, h4⟩ := cfA_ok D l j []
  unfold mkC
  rw [h1, zaM]
  exact ⟨⟨hV, h2, fun i hi => h3 i (by omega), fun i hi => (h4 _ (getD_mem X i zcf hi)).1⟩, fun x hx => (h4 x hx).2⟩
end Go.Proofs.Ytcnilpdlcmpbbab
-- NEWGO
-- PRUNE: cl_lendx cl_use
-- ISG: Cs_isG
-- FLAT: Cs_flat
namespace Go.Proofs.Ytcnilpdlcmpbbab
set_option linter.unusedVariables false
set_option linter.unusedSimpArgs false
open Go.Proofs.Ytcnilpdlcmpbbab.Sh
set_option maxRecDepth 20000
theorem setF_len (L : List Cf) (g : Int) (s : Sg) : (setF L g s).length = L.length := zaV _
theorem setF_at (L : List Cf) (g : Int) (s : Sg) (i : Nat) (h : i < L.length) : gCf (setF L g s) i = if (gCf L i).g = g then ⟨g, s⟩ else gCf L i := by
  rw [show gCf (setF L g s) i = (setF L g s)[i]'(by rw [setF_len]; exact h) from getD_at _ i zcf (by rw [setF_len]; exact h), show gCf L i = L[i] from getD_at L i zcf h]
  unfold setF
  rw [zba]
theorem FiP.set {l : List Nd} {n : Int} {L : List Cf} (h : FiP l n L) {s : Sg} (hs : ckS s = true) (g : Int) : FiP l n (setF L g s) := by
  refine ⟨h.vt, by rw [setF_len]; exact h.len, fun i hi => ?_, fun i hi => ?_⟩
  · rw [setF_len] at hi
    rw [setF_at L g s i hi]
    split
    · rename_i e; rw [← h.id i hi, e]
    · exact h.id i hi
  · rw [setF_len] at hi
    rw [setF_at L g s i hi]
    split
    · exact hs
    · exact h.ck i hi
theorem CfR.set {L : List Cf} (h : CfR L) {s : Sg} (hs : SgR s) (g : Int) : CfR (setF L g s) := fun x hx => by
  obtain ⟨y, hy, rfl⟩ := List.mem_map.1 hx
  split
  · exact hs
  · exact h y hy
theorem sgF_r {L : List Cf} (h : CfR L) (g : Int) : SgR (sgF L g) := by
  rcases sgF_ix L g with ⟨_, e, _⟩ | ⟨t, _, ht, e, _, _⟩
  · rw [e]; exact dfS_r
  · rw [e]; exact h _ (getD_mem L t zcf ht)
end Go.Proofs.Ytcnilpdlcmpbbab
-- NEWGO
-- PRUNE: cl_lendx cl_use
-- ISG: Cs_isG
-- FLAT: Cs_flat
namespace Go.Proofs.Ytcnilpdlcmpbbab
set_option linter.unusedVariables false
set_option linter.unusedSimpArgs false
open Go.Proofs.Ytcnilpdlcmpbbab.Sh
set_option maxRecDepth 20000
set_option maxHeartbeats 4000000 in
theorem dset_own (l : List Int) (j : Nat) (n : Nat) (hn : n ≤ 1000) (hl : l.length ≤ 600) (hr : ∀ x ∈ l, -9223372036854775808 ≤ x ∧ x ≤ 9223372036854775807) : FnSpec Try.prog 61 [dp, i1 n] [dice l j] (.one (.osl 1 0 (dSet l j n).1.length none)) [some (dice l (dSet l j n).2), some ⟨Ints (dSet l j n).1, 1⟩] := by
  obtain ⟨D, hD⟩ : ∃ D, dSet l j n = D := ⟨_, rfl⟩
  rw [hD]
  refine fnspec_of mixed TT_ok TT_cl ⟨fun _ => false, fun f => if f = 32 then [0] else [], 1, fun _ => false, fun _ => false⟩ Try.func61 rfl (by kernel_rfl) rfl 19 rfl [.tmp 4] rfl ?_
  simp only [go_sem, zaa, zai, zaj, zak, zan, zah, ↓reduceIte, reduceCtorEq, zac, zad, zal, zao, zap]
  repeat' (first
 | (intros; (try simp only [zav, zay, zau, zas, zaq, zar, decide_eq_true_eq, decide_eq_false_iff_not] at *); omega))
  refine w_loop (ι := Nat × Nat × List Int) (fun s => ⟨[(0, dp), (1, i1 n), (5, .one (.osl 1 0 s.2.2.length none)), (6, i1 s.1)], [(0, some (dice l s.2.1)), (1, some ⟨Ints s.2.2, 1⟩)], 2⟩) (fun s => s.1 ≤ n ∧ s.2.2.length ≤ s.1 ∧ stA l (n - s.1) s.2.1 s.1 s.2.2 = D) (fun s => n - s.1) (0, j, []) ?_ ⟨zaW _, zbc _, hD⟩ ?_
  · (refine Imp.trans (imp_nilA _ _ 5 1 99 (by simp only []; omega) rfl) ?_)
    (refine imp_ren _ _ _ [(0, 0, dice l j), (1, 99, ⟨[], 1⟩)] (by simp) (by simp) (by simp) (zaE rfl) ?_ rfl (by simp only [zab, zaf, false_implies, implies_true, and_true, zaT, lookR, zaa, if_true, if_false, ↓reduceIte, dice] <;> (repeat' apply zat) <;> (first | rfl | trivial)) (by simp only [zab, zaf, false_implies, implies_true, and_true, true_and, flat_cons, flat_nil, flat_ints, flat_bools, flat_app, zaP, and_self, eq_self_iff_true, zam, dice]); simp only [zae, zag, zab, zaf, false_implies, implies_true, and_true, lk, slot, zaR, zaB, toN, zaa, if_true, if_false, ↓reduceIte, reduceCtorEq])
    all_goals ((repeat' apply zat) <;> (first | rfl | trivial))
  rintro ⟨k, i, acc⟩ ⟨hk, ha, hI⟩
  simp only at hk ha hI ⊢
  rcases zaX k n with hlt | hge
  case inr =>
    have c : ¬ (k : Int) < (n : Int) := by omega
    rw [show n - k = 0 by omega] at hI
    subst hI
    simp only [go_sem, zaa, zai, zaj, zak, zan, zah, ↓reduceIte, reduceCtorEq, zac, zad, zal, zao, zap, decide_eq_false c, stA]
    repeat' (first
 | (intros; (try simp only [zav, zay, zau, zas, zaq, zar, decide_eq_true_eq, decide_eq_false_iff_not] at *); omega))
    (refine fs_flat [(0, dice l i), (1, ⟨Ints acc, 1⟩)] (by simp) (by simp only [zae, zag]; decide) (by simp only [go_sem, resV, resS, zaR, zaN, zaB, zaU, zaT, idx, renO, zaO, evS, slot, lookR, zaa, ↓reduceIte, reduceCtorEq, if_true, if_false, zaC, zaD, zae, zag, sLoad, readAt, readNeed, Ints_ren, Ints_length, Ints_getD, and_true, true_and, zaw, zax]; try decide) ?_ (by simp only [zab, zaf, false_implies, implies_true, and_true, zaT, lookR, zaa, if_true, if_false, ↓reduceIte, dice] <;> (repeat' apply zat) <;> (first | rfl | trivial)) (by simp only [zab, zaf, false_implies, implies_true, and_true, true_and, flat_cons, flat_nil, flat_ints, flat_bools, flat_app, zaP, and_self, eq_self_iff_true, zam, dice]) ?_ <;> (try simp only [go_sem, resV, resS, zaR, zaN, zaB, zaU, zaT, idx, renO, zaO, evS, slot, lookR, zaa, ↓reduceIte, reduceCtorEq, if_true, if_false, zaC, zaD, zae, zag, sLoad, readAt, readNeed, Ints_ren, Ints_length, Ints_getD, and_true, true_and, zaw, zax]) <;> (try rfl))
  have c : (k : Int) < (n : Int) := by omega
  rw [show n - k = (n - (k + 1)) + 1 by omega, stA] at hI
  have h1 := bool_spec l i 3 hl hr (by omega)
  have htk : List.take acc.length (Ints acc) = Ints acc := zaZ (by rw [Ints_length]; exact zbc _)
  by_cases h2 : nxV l i 3 = 2
  · rw [decide_eq_true (by omega : nxV l i 3 = 3 - 1)] at h1
    rw [if_pos h2] at hI
    have hpp : Ints acc ++ [int k] = Ints (acc ++ [(k : Int)]) := by simp [Ints]
    have hla : (acc ++ [(k : Int)]).length = acc.length + 1 := by simp
    simp only [go_sem, zaa, zai, zaj, zak, zan, zah, ↓reduceIte, reduceCtorEq, zac, zad, zal, zao, zap, decide_eq_true c]
    repeat' (first
 | with_reducible refine zat ?_ ?_
 | (apply cl_lend
    case hr => (simp only [zae, zag, hpL', lookR, zaa, if_true, if_false]; first | exact map1 _ | exact map2 _ _ | exact map3 _ _ _)
    case ha => (simp only [zae, zag, prepV, prepC, idx, hpL', lookR, zaa, if_true, if_false]; rfl)
    case hs => rfl
    case hn => decide
    case h => (first | exact h1 ..)
    case hf => (simp only [zab, zaf, false_implies, implies_true, and_true, true_and, flat_cons, flat_nil, flat_ints, flat_bools, flat_app, Cs_flat, zaP, and_self, eq_self_iff_true, zam])
    case hl => (simp only [zaz, zaA]; decide))
 | ((first | refine s1_id ?_ | refine swp_id ?_ | refine sops_id ?_ | refine s2_id ?_); simp only [decide_eq_true c, htk, hpp, zaI, zaK, zam, zaL, zaM, zaG, zaH, zaF, zaQ, zaS, zaz, zaA, go_sem, zaa, zai, zaj, zak, zan, zah, ↓reduceIte, reduceCtorEq, zac, zad, zal, zao, zap, zaR, zaN, zaB, zaO, renO, bk, back, outUpsFrom, Ints_ren])
 | (intros; omega)
 | (intros; (try simp only [zav, zay, zau, zas, zaq, zar, decide_eq_true_eq, decide_eq_false_iff_not] at *); omega))
    refine le_mk (k + 1, nxA l i 3, acc ++ [(k : Int)]) ?_ ⟨hlt, by show _ ≤ k + 1; rw [hla]; omega, hI⟩ (by show n - (k + 1) < n - k; omega)
    simp only [hla]
    (refine imp_ren _ _ _ [(0, 0, dice l (nxA l i 3)), (1, 10, ⟨Ints (acc ++ [(k : Int)]), 1⟩)] (by simp) (by simp) (by simp) (zaE rfl) ?_ rfl (by simp only [zab, zaf, false_implies, implies_true, and_true, zaT, lookR, zaa, if_true, if_false, ↓reduceIte, dice] <;> (repeat' apply zat) <;> (first | rfl | trivial)) (by simp only [zab, zaf, false_implies, implies_true, and_true, true_and, flat_cons, flat_nil, flat_ints, flat_bools, flat_app, zaP, and_self, eq_self_iff_true, zam, dice]); simp only [zae, zag, zab, zaf, false_implies, implies_true, and_true, lk, slot, zaR, zaB, toN, zaa, if_true, if_false, ↓reduceIte, reduceCtorEq])
    all_goals ((repeat' apply zat) <;> (first | rfl | trivial | (simp only [zaJ]; done) | (simp only [zaJ]; rfl) | (simp only [zaJ]; trivial)))
  · rw [decide_eq_false (by omega : ¬ nxV l i 3 = 3 - 1)] at h1
    rw [if_neg h2] at hI
    simp only [go_sem, zaa, zai, zaj, zak, zan, zah, ↓reduceIte, reduceCtorEq, zac, zad, zal, zao, zap, decide_eq_true c]
    repeat' (first
 | with_reducible refine zat ?_ ?_
 | (apply cl_lend
    case hr => (simp only [zae, zag, hpL', lookR, zaa, if_true, if_false]; first | exact map1 _ | exact map2 _ _ | exact map3 _ _ _)
    case ha => (simp only [zae, zag, prepV, prepC, idx, hpL', lookR, zaa, if_true, if_false]; rfl)
    case hs => rfl
    case hn => decide
    case h => (first | exact h1 ..)
    case hf => (simp only [zab, zaf, false_implies, implies_true, and_true, true_and, flat_cons, flat_nil, flat_ints, flat_bools, flat_app, Cs_flat, zaP, and_self, eq_self_iff_true, zam])
    case hl => (simp only [zaz, zaA]; decide))
 | ((first | refine s1_id ?_ | refine swp_id ?_ | refine sops_id ?_ | refine s2_id ?_); simp only [decide_eq_true c, go_sem, zaa, zai, zaj, zak, zan, zah, ↓reduceIte, reduceCtorEq, zac, zad, zal, zao, zap, zaR, zaN, zaB, zaO, renO, bk, back, outUpsFrom, Ints_ren])
 | (intros; omega)
 | (intros; (try simp only [zav, zay, zau, zas, zaq, zar, decide_eq_true_eq, decide_eq_false_iff_not] at *); omega))
    refine le_mk (k + 1, nxA l i 3, acc) ?_ ⟨hlt, by show acc.length ≤ k + 1; omega, hI⟩ (by show n - (k + 1) < n - k; omega)
    (refine imp_ren _ _ _ [(0, 0, dice l (nxA l i 3)), (1, 1, ⟨Ints acc, 1⟩)] (by simp) (by simp) (by simp) (zaE rfl) ?_ rfl (by simp only [zab, zaf, false_implies, implies_true, and_true, zaT, lookR, zaa, if_true, if_false, ↓reduceIte, dice] <;> (repeat' apply zat) <;> (first | rfl | trivial)) (by simp only [zab, zaf, false_implies, implies_true, and_true, true_and, flat_cons, flat_nil, flat_ints, flat_bools, flat_app, zaP, and_self, eq_self_iff_true, zam, dice]); simp only [zae, zag, zab, zaf, false_implies, implies_true, and_true, lk, slot, zaR, zaB, toN, zaa, if_true, if_false, ↓reduceIte, reduceCtorEq])
    all_goals ((repeat' apply zat) <;> (first | rfl | trivial | (simp only [zaJ]; done) | (simp only [zaJ]; rfl) | (simp only [zaJ]; trivial)))
def odK (D : List Int) (j : Nat) (x : Sg) (v : Int) : Sg × Nat :=
  if v = 0 then ({ x with pm := [-1, 1099511627776, 1099511627777, 4611686018427387904].getD (nxV D j 4).toNat 0 }, nxA D j 4)
  else if v = 1 then ({ x with w := [0, 1, 10000, 10001].getD (nxV D j 4).toNat 0 }, nxA D j 4)
  else if v = 2 then ({ x with q := [0, 1, 1000000, 1000001, 4611686018427387904].getD (nxV D j 5).toNat 0 }, nxA D j 5)
  else if v = 3 then ({ x with pe := [0, 1, 1000000, 1000001].getD (nxV D j 4).toNat 0 }, nxA D j 4)
  else if v = 4 then ({ x with b := nxV D j 12 - 1 }, nxA D j 12)
  else if v = 5 then ({ x with c0 := [-1, 0, 10000, 10001].getD (nxV D j 4).toNat 0 }, nxA D j 4)
  else if v = 6 then ({ x with c1 := [-1, 0, 10000, 10001].getD (nxV D j 4).toNat 0 }, nxA D j 4)
  else if v = 7 then ({ x with cp := (dSet D j 6).1 ++ [nxV D (dSet D j 6).2 20 - 1] }, nxA D (dSet D j 6).2 20)
  else if v = 8 then ({ x with mm := (dSet D j 4).1 ++ [nxV D (dSet D j 4).2 12 - 1] }, nxA D (dSet D j 4).2 12)
  else ({ x with pt := nxV D j 4 - 1 }, nxA D j 4)
def odS (D : List Int) (j : Nat) (x : Sg) : Sg × Nat := odK D (nxA D j 10) x (nxV D j 10)
theorem odS_r (D : List Int) (j : Nat) {x : Sg} (h : SgR x) : SgR (odS D j x).1 := by
  unfold odS odK
  have l6 := dSet_len D (nxA D j 10) 6
  have l4 := dSet_len D (nxA D j 10) 4
  refine ⟨?_, ?_⟩ <;> (repeat' split) <;> first | exact h.1 | exact h.2 | (simp only [List.length_append, List.length_singleton]; omega)
set_option maxHeartbeats 16000000 in
theorem oddset_spec (D : List Int) (hl : D.length ≤ 600) (hr : ∀ x ∈ D, -9223372036854775808 ≤ x ∧ x ≤ 9223372036854775807) (j : Nat) (x : Sg) (hx : SgR x) : FnSpec Try.prog 27 [dp, sgt x] [dice D j] (sgt (odS D j x).1) [some (dice D (odS D j x).2)] := by
  have a1 := srcp_spec x hx.1 hx.2
  have n1 := next_spec D j 10 hl hr (by decide)
  have r1 := nxV_rng D j 10 (by decide)
  unfold odS
  generalize nxV D j 10 = v at *
  generalize nxA D j 10 = j1 at *
  obtain ⟨pm, w, q, pe, b, c0, c1, cp, mm, pt, m0, m1, m2, m3, m4, mt⟩ := x
  simp only [sgt, sgc] at a1 ⊢
  have hv : v = 0 ∨ v = 1 ∨ v = 2 ∨ v = 3 ∨ v = 4 ∨ v = 5 ∨ v = 6 ∨ v = 7 ∨ v = 8 ∨ v = 9 := by omega
  rcases hv with rfl | rfl | rfl | rfl | rfl | rfl | rfl | rfl | rfl | rfl
  · have n2 := next_spec D j1 4 hl hr (by decide)
    have r2 := nxV_rng D j1 4 (by decide)
    simp only [odK, if_pos, if_neg, zal, if_false, if_true, ↓reduceIte]
    generalize nxV D j1 4 = u at *
    generalize nxA D j1 4 = j2 at *
    refine fnspec_of mixed TT_ok TT_cl ⟨fun _ => false, lendS, 1, fun _ => false, fun _ => false⟩ Try.func27 rfl (by kernel_rfl) rfl 91 rfl [.cell 4 47] rfl ?_
    simp only [go_sem, zaa, zai, zaj, zak, zan, zah, ↓reduceIte, reduceCtorEq, zac, zad, zal, zao, zap, lendS]
    repeat' (first
 | with_reducible refine zat ?_ ?_
 | (apply cl_plain
    case hs => rfl
    case ha => (simp only [zae, zag, prepV, prepC, idx, hpL', lookR, zaa, if_true, if_false]; rfl)
    case h => (first | exact a1 .. | exact n1 .. | exact n2 ..))
 | (apply cl_lend
    case hr => (simp only [zae, zag, hpL', lookR, zaa, if_true, if_false]; first | exact map1 _ | exact map2 _ _ | exact map3 _ _ _)
    case ha => (simp only [zae, zag, prepV, prepC, idx, hpL', lookR, zaa, if_true, if_false]; rfl)
    case hs => rfl
    case hn => decide
    case h => (first | exact a1 .. | exact n1 .. | exact n2 ..)
    case hf => (simp only [zab, zaf, false_implies, implies_true, and_true, true_and, flat_cons, flat_nil, flat_ints, flat_bools, flat_app, Cs_flat, zaP, and_self, eq_self_iff_true, zam])
    case hl => (simp only [zaz, zaA]; decide))
 | ((first | refine s1_id ?_ | refine swp_id ?_ | refine sops_id ?_ | refine s2_id ?_); simp only [lendS, dice, zaI, zaK, zam, zaL, zaM, zaG, zaH, zaF, zaQ, zaS, zaz, zaA, go_sem, zaa, zai, zaj, zak, zan, zah, ↓reduceIte, reduceCtorEq, zac, zad, zal, zao, zap, zaR, zaN, zaB, zaO, renO, bk, back, outUpsFrom, Ints_ren])
 | (intros; omega)
 | (intros; (try simp only [zav, zay, zau, zas, zaq, zar, decide_eq_true_eq, decide_eq_false_iff_not] at *); omega))
    (refine fs_flat [(0, dice D j2)] (by simp) (by simp only [zae, zag]; decide) (by simp only [go_sem, resV, resS, zaR, zaN, zaB, zaU, zaT, idx, renO, zaO, evS, slot, lookR, zaa, ↓reduceIte, reduceCtorEq, if_true, if_false, zaC, zaD, zae, zag, sLoad, readAt, readNeed, Ints_ren, Ints_length, Ints_getD, and_true, true_and, zaw, zax]; try decide) ?_ (by simp only [zab, zaf, false_implies, implies_true, and_true, zaT, lookR, zaa, if_true, if_false, ↓reduceIte, dice] <;> (repeat' apply zat) <;> (first | rfl | trivial)) (by simp only [zab, zaf, false_implies, implies_true, and_true, true_and, flat_cons, flat_nil, flat_ints, flat_bools, flat_app, zaP, and_self, eq_self_iff_true, zam, dice]) ?_ <;> (try simp only [go_sem, resV, resS, zaR, zaN, zaB, zaU, zaT, idx, renO, zaO, evS, slot, lookR, zaa, ↓reduceIte, reduceCtorEq, if_true, if_false, zaC, zaD, zae, zag, sLoad, readAt, readNeed, Ints_ren, Ints_length, Ints_getD, and_true, true_and, zaw, zax]) <;> (try rfl))
  · have n2 := next_spec D j1 4 hl hr (by decide)
    have r2 := nxV_rng D j1 4 (by decide)
    simp only [odK, if_pos, if_neg, zal, if_false, if_true, ↓reduceIte]
    generalize nxV D j1 4 = u at *
    generalize nxA D j1 4 = j2 at *
    refine fnspec_of mixed TT_ok TT_cl ⟨fun _ => false, lendS, 1, fun _ => false, fun _ => false⟩ Try.func27 rfl (by kernel_rfl) rfl 91 rfl [.cell 4 47] rfl ?_
    simp only [go_sem, zaa, zai, zaj, zak, zan, zah, ↓reduceIte, reduceCtorEq, zac, zad, zal, zao, zap, lendS]
    repeat' (first
 | with_reducible refine zat ?_ ?_
 | (apply cl_plain
    case hs => rfl
    case ha => (simp only [zae, zag, prepV, prepC, idx, hpL', lookR, zaa, if_true, if_false]; rfl)
    case h => (first | exact a1 .. | exact n1 .. | exact n2 ..))
 | (apply cl_lend
    case hr => (simp only [zae, zag, hpL', lookR, zaa, if_true, if_false]; first | exact map1 _ | exact map2 _ _ | exact map3 _ _ _)
    case ha => (simp only [zae, zag, prepV, prepC, idx, hpL', lookR, zaa, if_true, if_false]; rfl)
    case hs => rfl
    case hn => decide
    case h => (first | exact a1 .. | exact n1 .. | exact n2 ..)
    case hf => (simp only [zab, zaf, false_implies, implies_true, and_true, true_and, flat_cons, flat_nil, flat_ints, flat_bools, flat_app, Cs_flat, zaP, and_self, eq_self_iff_true, zam])
    case hl => (simp only [zaz, zaA]; decide))
 | ((first | refine s1_id ?_ | refine swp_id ?_ | refine sops_id ?_ | refine s2_id ?_); simp only [lendS, dice, zaI, zaK, zam, zaL, zaM, zaG, zaH, zaF, zaQ, zaS, zaz, zaA, go_sem, zaa, zai, zaj, zak, zan, zah, ↓reduceIte, reduceCtorEq, zac, zad, zal, zao, zap, zaR, zaN, zaB, zaO, renO, bk, back, outUpsFrom, Ints_ren])
 | (intros; omega)
 | (intros; (try simp only [zav, zay, zau, zas, zaq, zar, decide_eq_true_eq, decide_eq_false_iff_not] at *); omega))
    (refine fs_flat [(0, dice D j2)] (by simp) (by simp only [zae, zag]; decide) (by simp only [go_sem, resV, resS, zaR, zaN, zaB, zaU, zaT, idx, renO, zaO, evS, slot, lookR, zaa, ↓reduceIte, reduceCtorEq, if_true, if_false, zaC, zaD, zae, zag, sLoad, readAt, readNeed, Ints_ren, Ints_length, Ints_getD, and_true, true_and, zaw, zax]; try decide) ?_ (by simp only [zab, zaf, false_implies, implies_true, and_true, zaT, lookR, zaa, if_true, if_false, ↓reduceIte, dice] <;> (repeat' apply zat) <;> (first | rfl | trivial)) (by simp only [zab, zaf, false_implies, implies_true, and_true, true_and, flat_cons, flat_nil, flat_ints, flat_bools, flat_app, zaP, and_self, eq_self_iff_true, zam, dice]) ?_ <;> (try simp only [go_sem, resV, resS, zaR, zaN, zaB, zaU, zaT, idx, renO, zaO, evS, slot, lookR, zaa, ↓reduceIte, reduceCtorEq, if_true, if_false, zaC, zaD, zae, zag, sLoad, readAt, readNeed, Ints_ren, Ints_length, Ints_getD, and_true, true_and, zaw, zax]) <;> (try rfl))
  · have n2 := next_spec D j1 5 hl hr (by decide)
    have r2 := nxV_rng D j1 5 (by decide)
    simp only [odK, if_pos, if_neg, zal, if_false, if_true, ↓reduceIte]
    generalize nxV D j1 5 = u at *
    generalize nxA D j1 5 = j2 at *
    refine fnspec_of mixed TT_ok TT_cl ⟨fun _ => false, lendS, 1, fun _ => false, fun _ => false⟩ Try.func27 rfl (by kernel_rfl) rfl 91 rfl [.cell 4 47] rfl ?_
    simp only [go_sem, zaa, zai, zaj, zak, zan, zah, ↓reduceIte, reduceCtorEq, zac, zad, zal, zao, zap, lendS]
    repeat' (first
 | with_reducible refine zat ?_ ?_
 | (apply cl_plain
    case hs => rfl
    case ha => (simp only [zae, zag, prepV, prepC, idx, hpL', lookR, zaa, if_true, if_false]; rfl)
    case h => (first | exact a1 .. | exact n1 .. | exact n2 ..))
 | (apply cl_lend
    case hr => (simp only [zae, zag, hpL', lookR, zaa, if_true, if_false]; first | exact map1 _ | exact map2 _ _ | exact map3 _ _ _)
    case ha => (simp only [zae, zag, prepV, prepC, idx, hpL', lookR, zaa, if_true, if_false]; rfl)
    case hs => rfl
    case hn => decide
    case h => (first | exact a1 .. | exact n1 .. | exact n2 ..)
    case hf => (simp only [zab, zaf, false_implies, implies_true, and_true, true_and, flat_cons, flat_nil, flat_ints, flat_bools, flat_app, Cs_flat, zaP, and_self, eq_self_iff_true, zam])
    case hl => (simp only [zaz, zaA]; decide))
 | ((first | refine s1_id ?_ | refine swp_id ?_ | refine sops_id ?_ | refine s2_id ?_); simp only [lendS, dice, zaI, zaK, zam, zaL, zaM, zaG, zaH, zaF, zaQ, zaS, zaz, zaA, go_sem, zaa, zai, zaj, zak, zan, zah, ↓reduceIte, reduceCtorEq, zac, zad, zal, zao, zap, zaR, zaN, zaB, zaO, renO, bk, back, outUpsFrom, Ints_ren])
 | (intros; omega)
 | (intros; (try simp only [zav, zay, zau, zas, zaq, zar, decide_eq_true_eq, decide_eq_false_iff_not] at *); omega))
    (refine fs_flat [(0, dice D j2)] (by simp) (by simp only [zae, zag]; decide) (by simp only [go_sem, resV, resS, zaR, zaN, zaB, zaU, zaT, idx, renO, zaO, evS, slot, lookR, zaa, ↓reduceIte, reduceCtorEq, if_true, if_false, zaC, zaD, zae, zag, sLoad, readAt, readNeed, Ints_ren, Ints_length, Ints_getD, and_true, true_and, zaw, zax]; try decide) ?_ (by simp only [zab, zaf, false_implies, implies_true, and_true, zaT, lookR, zaa, if_true, if_false, ↓reduceIte, dice] <;> (repeat' apply zat) <;> (first | rfl | trivial)) (by simp only [zab, zaf, false_implies, implies_true, and_true, true_and, flat_cons, flat_nil, flat_ints, flat_bools, flat_app, zaP, and_self, eq_self_iff_true, zam, dice]) ?_ <;> (try simp only [go_sem, resV, resS, zaR, zaN, zaB, zaU, zaT, idx, renO, zaO, evS, slot, lookR, zaa, ↓reduceIte, reduceCtorEq, if_true, if_false, zaC, zaD, zae, zag, sLoad, readAt, readNeed, Ints_ren, Ints_length, Ints_getD, and_true, true_and, zaw, zax]) <;> (try rfl))
  · have n2 := next_spec D j1 4 hl hr (by decide)
    have r2 := nxV_rng D j1 4 (by decide)
    simp only [odK, if_pos, if_neg, zal, if_false, if_true, ↓reduceIte]
    generalize nxV D j1 4 = u at *
    generalize nxA D j1 4 = j2 at *
    refine fnspec_of mixed TT_ok TT_cl ⟨fun _ => false, lendS, 1, fun _ => false, fun _ => false⟩ Try.func27 rfl (by kernel_rfl) rfl 91 rfl [.cell 4 47] rfl ?_
    simp only [go_sem, zaa, zai, zaj, zak, zan, zah, ↓reduceIte, reduceCtorEq, zac, zad, zal, zao, zap, lendS]
    repeat' (first
 | with_reducible refine zat ?_ ?_
 | (apply cl_plain
    case hs => rfl
    case ha => (simp only [zae, zag, prepV, prepC, idx, hpL', lookR, zaa, if_true, if_false]; rfl)
    case h => (first | exact a1 .. | exact n1 .. | exact n2 ..))
 | (apply cl_lend
    case hr => (simp only [zae, zag, hpL', lookR, zaa, if_true, if_false]; first | exact map1 _ | exact map2 _ _ | exact map3 _ _ _)
    case ha => (simp only [zae, zag, prepV, prepC, idx, hpL', lookR, zaa, if_true, if_false]; rfl)
    case hs => rfl
    case hn => decide
    case h => (first | exact a1 .. | exact n1 .. | exact n2 ..)
    case hf => (simp only [zab, zaf, false_implies, implies_true, and_true, true_and, flat_cons, flat_nil, flat_ints, flat_bools, flat_app, Cs_flat, zaP, and_self, eq_self_iff_true, zam])
    case hl => (simp only [zaz, zaA]; decide))
 | ((first | refine s1_id ?_ | refine swp_id ?_ | refine sops_id ?_ | refine s2_id ?_); simp only [lendS, dice, zaI, zaK, zam, zaL, zaM, zaG, zaH, zaF, zaQ, zaS, zaz, zaA, go_sem, zaa, zai, zaj, zak, zan, zah, ↓reduceIte, reduceCtorEq, zac, zad, zal, zao, zap, zaR, zaN, zaB, zaO, renO, bk, back, outUpsFrom, Ints_ren])
 | (intros; omega)
 | (intros; (try simp only [zav, zay, zau, zas, zaq, zar, decide_eq_true_eq, decide_eq_false_iff_not] at *); omega))
    (refine fs_flat [(0, dice D j2)] (by simp) (by simp only [zae, zag]; decide) (by simp only [go_sem, resV, resS, zaR, zaN, zaB, zaU, zaT, idx, renO, zaO, evS, slot, lookR, zaa, ↓reduceIte, reduceCtorEq, if_true, if_false, zaC, zaD, zae, zag, sLoad, readAt, readNeed, Ints_ren, Ints_length, Ints_getD, and_true, true_and, zaw, zax]; try decide) ?_ (by simp only [zab, zaf, false_implies, implies_true, and_true, zaT, lookR, zaa, if_true, if_false, ↓reduceIte, dice] <;> (repeat' apply zat) <;> (first | rfl | trivial)) (by simp only [zab, zaf, false_implies, implies_true, and_true, true_and, flat_cons, flat_nil, flat_ints, flat_bools, flat_app, zaP, and_self, eq_self_iff_true, zam, dice]) ?_ <;> (try simp only [go_sem, resV, resS, zaR, zaN, zaB, zaU, zaT, idx, renO, zaO, evS, slot, lookR, zaa, ↓reduceIte, reduceCtorEq, if_true, if_false, zaC, zaD, zae, zag, sLoad, readAt, readNeed, Ints_ren, Ints_length, Ints_getD, and_true, true_and, zaw, zax]) <;> (try rfl))
  · have n2 := next_spec D j1 12 hl hr (by decide)
    have r2 := nxV_rng D j1 12 (by decide)
    simp only [odK, if_pos, if_neg, zal, if_false, if_true, ↓reduceIte]
    generalize nxV D j1 12 = u at *
    generalize nxA D j1 12 = j2 at *
    refine fnspec_of mixed TT_ok TT_cl ⟨fun _ => false, lendS, 1, fun _ => false, fun _ => false⟩ Try.func27 rfl (by kernel_rfl) rfl 91 rfl [.cell 4 47] rfl ?_
    simp only [go_sem, zaa, zai, zaj, zak, zan, zah, ↓reduceIte, reduceCtorEq, zac, zad, zal, zao, zap, lendS]
    repeat' (first
 | with_reducible refine zat ?_ ?_
 | (apply cl_plain
    case hs => rfl
    case ha => (simp only [zae, zag, prepV, prepC, idx, hpL', lookR, zaa, if_true, if_false]; rfl)
    case h => (first | exact a1 .. | exact n1 .. | exact n2 ..))
 | (apply cl_lend
    case hr => (simp only [zae, zag, hpL', lookR, zaa, if_true, if_false]; first | exact map1 _ | exact map2 _ _ | exact map3 _ _ _)
    case ha => (simp only [zae, zag, prepV, prepC, idx, hpL', lookR, zaa, if_true, if_false]; rfl)
    case hs => rfl
    case hn => decide
    case h => (first | exact a1 .. | exact n1 .. | exact n2 ..)
    case hf => (simp only [zab, zaf, false_implies, implies_true, and_true, true_and, flat_cons, flat_nil, flat_ints, flat_bools, flat_app, Cs_flat, zaP, and_self, eq_self_iff_true, zam])
    case hl => (simp only [zaz, zaA]; decide))
 | ((first | refine s1_id ?_ | refine swp_id ?_ | refine sops_id ?_ | refine s2_id ?_); simp only [lendS, dice, zaI, zaK, zam, zaL, zaM, zaG, zaH, zaF, zaQ, zaS, zaz, zaA, go_sem, zaa, zai, zaj, zak, zan, zah, ↓reduceIte, reduceCtorEq, zac, zad, zal, zao, zap, zaR, zaN, zaB, zaO, renO, bk, back, outUpsFrom, Ints_ren])
 | (intros; omega)
 | (intros; (try simp only [zav, zay, zau, zas, zaq, zar, decide_eq_true_eq, decide_eq_false_iff_not] at *); omega))
    (refine fs_flat [(0, dice D j2)] (by simp) (by simp only [zae, zag]; decide) (by simp only [go_sem, resV, resS, zaR, zaN, zaB, zaU, zaT, idx, renO, zaO, evS, slot, lookR, zaa, ↓reduceIte, reduceCtorEq, if_true, if_false, zaC, zaD, zae, zag, sLoad, readAt, readNeed, Ints_ren, Ints_length, Ints_getD, and_true, true_and, zaw, zax]; try decide) ?_ (by simp only [zab, zaf, false_implies, implies_true, and_true, zaT, lookR, zaa, if_true, if_false, ↓reduceIte, dice] <;> (repeat' apply zat) <;> (first | rfl | trivial)) (by simp only [zab, zaf, false_implies, implies_true, and_true, true_and, flat_cons, flat_nil, flat_ints, flat_bools, flat_app, zaP, and_self, eq_self_iff_true, zam, dice]) ?_ <;> (try simp only [go_sem, resV, resS, zaR, zaN, zaB, zaU, zaT, idx, renO, zaO, evS, slot, lookR, zaa, ↓reduceIte, reduceCtorEq, if_true, if_false, zaC, zaD, zae, zag, sLoad, readAt, readNeed, Ints_ren, Ints_length, Ints_getD, and_true, true_and, zaw, zax]) <;> (try rfl))
  · have n2 := next_spec D j1 4 hl hr (by decide)
    have r2 := nxV_rng D j1 4 (by decide)
    simp only [odK, if_pos, if_neg, zal, if_false, if_true, ↓reduceIte]
    generalize nxV D j1 4 = u at *
    generalize nxA D j1 4 = j2 at *
    refine fnspec_of mixed TT_ok TT_cl ⟨fun _ => false, lendS, 1, fun _ => false, fun _ => false⟩ Try.func27 rfl (by kernel_rfl) rfl 91 rfl [.cell 4 47] rfl ?_
    simp only [go_sem, zaa, zai, zaj, zak, zan, zah, ↓reduceIte, reduceCtorEq, zac, zad, zal, zao, zap, lendS]
    repeat' (first
 | with_reducible refine zat ?_ ?_
 | (apply cl_plain
    case hs => rfl
    case ha => (simp only [zae, zag, prepV, prepC, idx, hpL', lookR, zaa, if_true, if_false]; rfl)
    case h => (first | exact a1 .. | exact n1 .. | exact n2 ..))
 | (apply cl_lend
    case hr => (simp only [zae, zag, hpL', lookR, zaa, if_true, if_false]; first | exact map1 _ | exact map2 _ _ | exact map3 _ _ _)
    case ha => (simp only [zae, zag, prepV, prepC, idx, hpL', lookR, zaa, if_true, if_false]; rfl)
    case hs => rfl
    case hn => decide
    case h => (first | exact a1 .. | exact n1 .. | exact n2 ..)
    case hf => (simp only [zab, zaf, false_implies, implies_true, and_true, true_and, flat_cons, flat_nil, flat_ints, flat_bools, flat_app, Cs_flat, zaP, and_self, eq_self_iff_true, zam])
    case hl => (simp only [zaz, zaA]; decide))
 | ((first | refine s1_id ?_ | refine swp_id ?_ | refine sops_id ?_ | refine s2_id ?_); simp only [lendS, dice, zaI, zaK, zam, zaL, zaM, zaG, zaH, zaF, zaQ, zaS, zaz, zaA, go_sem, zaa, zai, zaj, zak, zan, zah, ↓reduceIte, reduceCtorEq, zac, zad, zal, zao, zap, zaR, zaN, zaB, zaO, renO, bk, back, outUpsFrom, Ints_ren])
 | (intros; omega)
 | (intros; (try simp only [zav, zay, zau, zas, zaq, zar, decide_eq_true_eq, decide_eq_false_iff_not] at *); omega))
    (refine fs_flat [(0, dice D j2)] (by simp) (by simp only [zae, zag]; decide) (by simp only [go_sem, resV, resS, zaR, zaN, zaB, zaU, zaT, idx, renO, zaO, evS, slot, lookR, zaa, ↓reduceIte, reduceCtorEq, if_true, if_false, zaC, zaD, zae, zag, sLoad, readAt, readNeed, Ints_ren, Ints_length, Ints_getD, and_true, true_and, zaw, zax]; try decide) ?_ (by simp only [zab, zaf, false_implies, implies_true, and_true, zaT, lookR, zaa, if_true, if_false, ↓reduceIte, dice] <;> (repeat' apply zat) <;> (first | rfl | trivial)) (by simp only [zab, zaf, false_implies, implies_true, and_true, true_and, flat_cons, flat_nil, flat_ints, flat_bools, flat_app, zaP, and_self, eq_self_iff_true, zam, dice]) ?_ <;> (try simp only [go_sem, resV, resS, zaR, zaN, zaB, zaU, zaT, idx, renO, zaO, evS, slot, lookR, zaa, ↓reduceIte, reduceCtorEq, if_true, if_false, zaC, zaD, zae, zag, sLoad, readAt, readNeed, Ints_ren, Ints_length, Ints_getD, and_true, true_and, zaw, zax]) <;> (try rfl))
  · have n2 := next_spec D j1 4 hl hr (by decide)
    have r2 := nxV_rng D j1 4 (by decide)
    simp only [odK, if_pos, if_neg, zal, if_false, if_true, ↓reduceIte]
    generalize nxV D j1 4 = u at *
    generalize nxA D j1 4 = j2 at *
    refine fnspec_of mixed TT_ok TT_cl ⟨fun _ => false, lendS, 1, fun _ => false, fun _ => false⟩ Try.func27 rfl (by kernel_rfl) rfl 91 rfl [.cell 4 47] rfl ?_
    simp only [go_sem, zaa, zai, zaj, zak, zan, zah, ↓reduceIte, reduceCtorEq, zac, zad, zal, zao, zap, lendS]
    repeat' (first
 | with_reducible refine zat ?_ ?_
 | (apply cl_plain
    case hs => rfl
    case ha => (simp only [zae, zag, prepV, prepC, idx, hpL', lookR, zaa, if_true, if_false]; rfl)
    case h => (first | exact a1 .. | exact n1 .. | exact n2 ..))
 | (apply cl_lend
    case hr => (simp only [zae, zag, hpL', lookR, zaa, if_true, if_false]; first | exact map1 _ | exact map2 _ _ | exact map3 _ _ _)
    case ha => (simp only [zae, zag, prepV, prepC, idx, hpL', lookR, zaa, if_true, if_false]; rfl)
    case hs => rfl
    case hn => decide
    case h => (first | exact a1 .. | exact n1 .. | exact n2 ..)
    case hf => (simp only [zab, zaf, false_implies, implies_true, and_true, true_and, flat_cons, flat_nil, flat_ints, flat_bools, flat_app, Cs_flat, zaP, and_self, eq_self_iff_true, zam])
    case hl => (simp only [zaz, zaA]; decide))
 | ((first | refine s1_id ?_ | refine swp_id ?_ | refine sops_id ?_ | refine s2_id ?_); simp only [lendS, dice, zaI, zaK, zam, zaL, zaM, zaG, zaH, zaF, zaQ, zaS, zaz, zaA, go_sem, zaa, zai, zaj, zak, zan, zah, ↓reduceIte, reduceCtorEq, zac, zad, zal, zao, zap, zaR, zaN, zaB, zaO, renO, bk, back, outUpsFrom, Ints_ren])
 | (intros; omega)
 | (intros; (try simp only [zav, zay, zau, zas, zaq, zar, decide_eq_true_eq, decide_eq_false_iff_not] at *); omega))
    (refine fs_flat [(0, dice D j2)] (by simp) (by simp only [zae, zag]; decide) (by simp only [go_sem, resV, resS, zaR, zaN, zaB, zaU, zaT, idx, renO, zaO, evS, slot, lookR, zaa, ↓reduceIte, reduceCtorEq, if_true, if_false, zaC, zaD, zae, zag, sLoad, readAt, readNeed, Ints_ren, Ints_length, Ints_getD, and_true, true_and, zaw, zax]; try decide) ?_ (by simp only [zab, zaf, false_implies, implies_true, and_true, zaT, lookR, zaa, if_true, if_false, ↓reduceIte, dice] <;> (repeat' apply zat) <;> (first | rfl | trivial)) (by simp only [zab, zaf, false_implies, implies_true, and_true, true_and, flat_cons, flat_nil, flat_ints, flat_bools, flat_app, zaP, and_self, eq_self_iff_true, zam, dice]) ?_ <;> (try simp only [go_sem, resV, resS, zaR, zaN, zaB, zaU, zaT, idx, renO, zaO, evS, slot, lookR, zaa, ↓reduceIte, reduceCtorEq, if_true, if_false, zaC, zaD, zae, zag, sLoad, readAt, readNeed, Ints_ren, Ints_length, Ints_getD, and_true, true_and, zaw, zax]) <;> (try rfl))
  · have n2 := dset_own D j1 6 (by decide) hl hr
    have l2 := dSet_len D j1 6
    simp only [odK, if_pos, if_neg, zal, if_false, if_true, ↓reduceIte]
    generalize dSet D j1 6 = S at *
    obtain ⟨A, j2⟩ := S
    simp only at n2 l2 ⊢
    have n3 := next_spec D j2 20 hl hr (by decide)
    have r3 := nxV_rng D j2 20 (by decide)
    generalize nxV D j2 20 = u at *
    generalize nxA D j2 20 = j3 at *
    have htk : List.take A.length (Ints A) = Ints A := zaZ (by rw [Ints_length]; exact zbc _)
    have hpp : Ints A ++ [int (u - 1)] = Ints (A ++ [u - 1]) := by simp [Ints]
    have hla : (A ++ [u - 1]).length = A.length + 1 := by simp
    simp only [hla]
    refine fnspec_of mixed TT_ok TT_cl ⟨fun _ => false, lendS, 1, fun _ => false, fun _ => false⟩ Try.func27 rfl (by kernel_rfl) rfl 91 rfl [.cell 4 47] rfl ?_
    simp only [go_sem, zaa, zai, zaj, zak, zan, zah, ↓reduceIte, reduceCtorEq, zac, zad, zal, zao, zap, lendS]
    repeat' (first
 | with_reducible refine zat ?_ ?_
 | (apply cl_plain
    case hs => rfl
    case ha => (simp only [zae, zag, prepV, prepC, idx, hpL', lookR, zaa, if_true, if_false]; rfl)
    case h => (first | exact a1 .. | exact n1 .. | exact n2 .. | exact n3 ..))
 | (apply cl_lend
    case hr => (simp only [zae, zag, hpL', lookR, zaa, if_true, if_false]; first | exact map1 _ | exact map2 _ _ | exact map3 _ _ _)
    case ha => (simp only [zae, zag, prepV, prepC, idx, hpL', lookR, zaa, if_true, if_false]; rfl)
    case hs => rfl
    case hn => decide
    case h => (first | exact a1 .. | exact n1 .. | exact n2 .. | exact n3 ..)
    case hf => (simp only [zab, zaf, false_implies, implies_true, and_true, true_and, flat_cons, flat_nil, flat_ints, flat_bools, flat_app, Cs_flat, zaP, and_self, eq_self_iff_true, zam])
    case hl => (simp only [zaz, zaA]; decide))
 | ((first | refine s1_id ?_ | refine swp_id ?_ | refine sops_id ?_ | refine s2_id ?_); simp only [lendS, dice, htk, hpp, zaI, zaK, zam, zaL, zaM, zaG, zaH, zaF, zaQ, zaS, zaz, zaA, go_sem, zaa, zai, zaj, zak, zan, zah, ↓reduceIte, reduceCtorEq, zac, zad, zal, zao, zap, zaR, zaN, zaB, zaO, renO, bk, back, outUpsFrom, Ints_ren])
 | (intros; omega)
 | (intros; (try simp only [zav, zay, zau, zas, zaq, zar, decide_eq_true_eq, decide_eq_false_iff_not] at *); omega))
    (refine fs_frz 31 ⟨Ints (A ++ [u - 1]), 1⟩ (by simp only [zaT, lookR, zaa, if_true, if_false, ↓reduceIte]) (by first | exact Ints_isG _ | exact Bools_isG _ | exact Cs_isG _ | (simp [Cell.isG]; done)) ?_; simp only [frzTm, SV.frz, SV.frzL, Cell.frz, frzHp, frzO, Ints_frz, Bools_frz, zae, zag, zaa, if_true, if_false, ↓reduceIte])
    (refine fs_flat [(0, dice D j3)] (by simp) (by simp only [zae, zag]; decide) (by simp only [go_sem, resV, resS, zaR, zaN, zaB, zaU, zaT, idx, renO, zaO, evS, slot, lookR, zaa, ↓reduceIte, reduceCtorEq, if_true, if_false, zaC, zaD, zae, zag, sLoad, readAt, readNeed, Ints_ren, Ints_length, Ints_getD, and_true, true_and, zaw, zax]; try decide) ?_ (by simp only [zab, zaf, false_implies, implies_true, and_true, zaT, lookR, zaa, if_true, if_false, ↓reduceIte, dice] <;> (repeat' apply zat) <;> (first | rfl | trivial)) (by simp only [zab, zaf, false_implies, implies_true, and_true, true_and, flat_cons, flat_nil, flat_ints, flat_bools, flat_app, zaP, and_self, eq_self_iff_true, zam, dice]) ?_ <;> (try simp only [go_sem, resV, resS, zaR, zaN, zaB, zaU, zaT, idx, renO, zaO, evS, slot, lookR, zaa, ↓reduceIte, reduceCtorEq, if_true, if_false, zaC, zaD, zae, zag, sLoad, readAt, readNeed, Ints_ren, Ints_length, Ints_getD, and_true, true_and, zaw, zax]) <;> (try rfl))
  · have n2 := dset_own D j1 4 (by decide) hl hr
    have l2 := dSet_len D j1 4
    simp only [odK, if_pos, if_neg, zal, if_false, if_true, ↓reduceIte]
    generalize dSet D j1 4 = S at *
    obtain ⟨A, j2⟩ := S
    simp only at n2 l2 ⊢
    have n3 := next_spec D j2 12 hl hr (by decide)
    have r3 := nxV_rng D j2 12 (by decide)
    generalize nxV D j2 12 = u at *
    generalize nxA D j2 12 = j3 at *
    have htk : List.take A.length (Ints A) = Ints A := zaZ (by rw [Ints_length]; exact zbc _)
    have hpp : Ints A ++ [int (u - 1)] = Ints (A ++ [u - 1]) := by simp [Ints]
    have hla : (A ++ [u - 1]).length = A.length + 1 := by simp
    simp only [hla]
    refine fnspec_of mixed TT_ok TT_cl ⟨fun _ => false, lendS, 1, fun _ => false, fun _ => false⟩ Try.func27 rfl (by kernel_rfl) rfl 91 rfl [.cell 4 47] rfl ?_
    simp only [go_sem, zaa, zai, zaj, zak, zan, zah, ↓reduceIte, reduceCtorEq, zac, zad, zal, zao, zap, lendS]
    repeat' (first
 | with_reducible refine zat ?_ ?_
 | (apply cl_plain
    case hs => rfl
    case ha => (simp only [zae, zag, prepV, prepC, idx, hpL', lookR, zaa, if_true, if_false]; rfl)
    case h => (first | exact a1 .. | exact n1 .. | exact n2 .. | exact n3 ..))
 | (apply cl_lend
    case hr => (simp only [zae, zag, hpL', lookR, zaa, if_true, if_false]; first | exact map1 _ | exact map2 _ _ | exact map3 _ _ _)
    case ha => (simp only [zae, zag, prepV, prepC, idx, hpL', lookR, zaa, if_true, if_false]; rfl)
    case hs => rfl
    case hn => decide
    case h => (first | exact a1 .. | exact n1 .. | exact n2 .. | exact n3 ..)
    case hf => (simp only [zab, zaf, false_implies, implies_true, and_true, true_and, flat_cons, flat_nil, flat_ints, flat_bools, flat_app, Cs_flat, zaP, and_self, eq_self_iff_true, zam])
    case hl => (simp only [zaz, zaA]; decide))
 | ((first | refine s1_id ?_ | refine swp_id ?_ | refine sops_id ?_ | refine s2_id ?_); simp only [lendS, dice, htk, hpp, zaI, zaK, zam, zaL, zaM, zaG, zaH, zaF, zaQ, zaS, zaz, zaA, go_sem, zaa, zai, zaj, zak, zan, zah, ↓reduceIte, reduceCtorEq, zac, zad, zal, zao, zap, zaR, zaN, zaB, zaO, renO, bk, back, outUpsFrom, Ints_ren])
 | (intros; omega)
 | (intros; (try simp only [zav, zay, zau, zas, zaq, zar, decide_eq_true_eq, decide_eq_false_iff_not] at *); omega))
    (refine fs_frz 33 ⟨Ints (A ++ [u - 1]), 1⟩ (by simp only [zaT, lookR, zaa, if_true, if_false, ↓reduceIte]) (by first | exact Ints_isG _ | exact Bools_isG _ | exact Cs_isG _ | (simp [Cell.isG]; done)) ?_; simp only [frzTm, SV.frz, SV.frzL, Cell.frz, frzHp, frzO, Ints_frz, Bools_frz, zae, zag, zaa, if_true, if_false, ↓reduceIte])
    (refine fs_flat [(0, dice D j3)] (by simp) (by simp only [zae, zag]; decide) (by simp only [go_sem, resV, resS, zaR, zaN, zaB, zaU, zaT, idx, renO, zaO, evS, slot, lookR, zaa, ↓reduceIte, reduceCtorEq, if_true, if_false, zaC, zaD, zae, zag, sLoad, readAt, readNeed, Ints_ren, Ints_length, Ints_getD, and_true, true_and, zaw, zax]; try decide) ?_ (by simp only [zab, zaf, false_implies, implies_true, and_true, zaT, lookR, zaa, if_true, if_false, ↓reduceIte, dice] <;> (repeat' apply zat) <;> (first | rfl | trivial)) (by simp only [zab, zaf, false_implies, implies_true, and_true, true_and, flat_cons, flat_nil, flat_ints, flat_bools, flat_app, zaP, and_self, eq_self_iff_true, zam, dice]) ?_ <;> (try simp only [go_sem, resV, resS, zaR, zaN, zaB, zaU, zaT, idx, renO, zaO, evS, slot, lookR, zaa, ↓reduceIte, reduceCtorEq, if_true, if_false, zaC, zaD, zae, zag, sLoad, readAt, readNeed, Ints_ren, Ints_length, Ints_getD, and_true, true_and, zaw, zax]) <;> (try rfl))
  · have n2 := next_spec D j1 4 hl hr (by decide)
    have r2 := nxV_rng D j1 4 (by decide)
    simp only [odK, if_pos, if_neg, zal, if_false, if_true, ↓reduceIte]
    generalize nxV D j1 4 = u at *
    generalize nxA D j1 4 = j2 at *
    refine fnspec_of mixed TT_ok TT_cl ⟨fun _ => false, lendS, 1, fun _ => false, fun _ => false⟩ Try.func27 rfl (by kernel_rfl) rfl 91 rfl [.cell 4 47] rfl ?_
    simp only [go_sem, zaa, zai, zaj, zak, zan, zah, ↓reduceIte, reduceCtorEq, zac, zad, zal, zao, zap, lendS]
    repeat' (first
 | with_reducible refine zat ?_ ?_
 | (apply cl_plain
    case hs => rfl
    case ha => (simp only [zae, zag, prepV, prepC, idx, hpL', lookR, zaa, if_true, if_false]; rfl)
    case h => (first | exact a1 .. | exact n1 .. | exact n2 ..))
 | (apply cl_lend
    case hr => (simp only [zae, zag, hpL', lookR, zaa, if_true, if_false]; first | exact map1 _ | exact map2 _ _ | exact map3 _ _ _)
    case ha => (simp only [zae, zag, prepV, prepC, idx, hpL', lookR, zaa, if_true, if_false]; rfl)
    case hs => rfl
    case hn => decide
    case h => (first | exact a1 .. | exact n1 .. | exact n2 ..)
    case hf => (simp only [zab, zaf, false_implies, implies_true, and_true, true_and, flat_cons, flat_nil, flat_ints, flat_bools, flat_app, Cs_flat, zaP, and_self, eq_self_iff_true, zam])
    case hl => (simp only [zaz, zaA]; decide))
 | ((first | refine s1_id ?_ | refine swp_id ?_ | refine sops_id ?_ | refine s2_id ?_); simp only [lendS, dice, zaI, zaK, zam, zaL, zaM, zaG, zaH, zaF, zaQ, zaS, zaz, zaA, go_sem, zaa, zai, zaj, zak, zan, zah, ↓reduceIte, reduceCtorEq, zac, zad, zal, zao, zap, zaR, zaN, zaB, zaO, renO, bk, back, outUpsFrom, Ints_ren])
 | (intros; omega)
 | (intros; (try simp only [zav, zay, zau, zas, zaq, zar, decide_eq_true_eq, decide_eq_false_iff_not] at *); omega))
    (refine fs_flat [(0, dice D j2)] (by simp) (by simp only [zae, zag]; decide) (by simp only [go_sem, resV, resS, zaR, zaN, zaB, zaU, zaT, idx, renO, zaO, evS, slot, lookR, zaa, ↓reduceIte, reduceCtorEq, if_true, if_false, zaC, zaD, zae, zag, sLoad, readAt, readNeed, Ints_ren, Ints_length, Ints_getD, and_true, true_and, zaw, zax]; try decide) ?_ (by simp only [zab, zaf, false_implies, implies_true, and_true, zaT, lookR, zaa, if_true, if_false, ↓reduceIte, dice] <;> (repeat' apply zat) <;> (first | rfl | trivial)) (by simp only [zab, zaf, false_implies, implies_true, and_true, true_and, flat_cons, flat_nil, flat_ints, flat_bools, flat_app, zaP, and_self, eq_self_iff_true, zam, dice]) ?_ <;> (try simp only [go_sem, resV, resS, zaR, zaN, zaB, zaU, zaT, idx, renO, zaO, evS, slot, lookR, zaa, ↓reduceIte, reduceCtorEq, if_true, if_false, zaC, zaD, zae, zag, sLoad, readAt, readNeed, Ints_ren, Ints_length, Ints_getD, and_true, true_and, zaw, zax]) <;> (try rfl))
end Go.Proofs.Ytcnilpdlcmpbbab
-- NEWGO
-- PRUNE: cl_lendx cl_use
-- ISG: Cs_isG
-- FLAT: Cs_flat
namespace Go.Proofs.Ytcnilpdlcmpbbab
set_option linter.unusedVariables false
set_option linter.unusedSimpArgs false
open Go.Proofs.Ytcnilpdlcmpbbab.Sh
set_option maxRecDepth 20000
instance : Rec Sg := ⟨sgc, 17, zsg, fun _ => rfl, fun x c h => by
  simp only [sgc, zaY, zaf, or_false] at h
  rcases h with rfl | rfl | rfl | rfl | rfl | rfl | rfl | rfl | rfl | rfl | rfl | rfl | rfl | rfl | rfl | rfl | rfl <;> rfl⟩
def GWL : List Cell → List Cell → Prop
  | [], [] => True
  | x :: xs, y :: ys => (∀ m v, VG m x v → VG m y v) ∧ GWL xs ys
  | _, _ => False
theorem GWL.refl : ∀ (l : List Cell), GWL l l
  | [] => trivial
  | _ :: l => ⟨fun _ _ h => h, GWL.refl l⟩
theorem GWL.app {c d : List Cell} (h2 : GWL c d) : ∀ {a b : List Cell}, GWL a b → GWL (a ++ c) (b ++ d)
  | [], [], _ => h2
  | _ :: _, _ :: _, h => ⟨h.1, GWL.app h2 h.2⟩
theorem GWL.at : ∀ {a b : List Cell}, GWL a b → ∀ (i : Nat) y, b[i]? = some y → ∃ x, a[i]? = some x ∧ ∀ m v, VG m x v → VG m y v
  | _, [], _, _, _, hy => by cases hy
  | [], _ :: _, h, _, _, _ => h.elim
  | _ :: _, _ :: _, h, 0, y, hy => by cases hy; exact ⟨_, rfl, h.1⟩
  | _ :: _, _ :: _, h, i + 1, y, hy => GWL.at h.2 i y hy
theorem scw_list {cs ds : List Cell} (off len : Nat) (cap : Option Nat) (hw : GWL cs ds) : CW (.gsl cs off len cap) (.gsl ds off len none) := by
  refine ⟨fun m π v hv => ?_, fun _ _ => trivial⟩
  cases hv with
  | gsl _ _ _ _ b o c ad vals hc hlc hm hv ha =>
    exact VG.gsl ds off len none b o c ad vals (fun k h => by cases h) hlc (fun i y hi => by obtain ⟨x, hx, _⟩ := hw.at i y hi; exact hm i x hx) (fun i y hi => by obtain ⟨x, hx, hxy⟩ := hw.at i y hi; exact hxy m _ (hv i x hx)) ha
  | gnil _ _ _ hc => exact VG.gnil ds off none (fun k h => by cases h)
end Go.Proofs.Ytcnilpdlcmpbbab
-- NEWGO
-- PRUNE: cl_lendx cl_use
-- ISG: Cs_isG
-- FLAT: Cs_flat
namespace Go.Proofs.Ytcnilpdlcmpbbab
set_option linter.unusedVariables false
set_option linter.unusedSimpArgs false
open Go.Proofs.Ytcnilpdlcmpbbab.Sh
set_option maxRecDepth 20000
theorem gCf_map (l : List Nd) (L : List Cf) (i : Nat) (h : i < l.length) : gCf (adF l L) i = ⟨(gN l i).i, sgF L (gN l i).i⟩ := by
  rw [show gCf (adF l L) i = (adF l L)[i]'(by rw [adF_len]; exact h) from getD_at _ i zcf (by rw [adF_len]; exact h), show gN l i = l[i] from getD_at l i zn h]
  unfold adF
  rw [zba]
theorem sgF_ck {L : List Cf} (h : ∀ x ∈ L, ckS x.s = true) (g : Int) : ckS (sgF L g) = true := by
  rcases sgF_ix L g with ⟨_, e, _⟩ | ⟨t, _, ht, e, _, _⟩
  · rw [e]; exact dfS_ok.1
  · rw [e]; exact h _ (getD_mem L t zcf ht)
theorem FiP.all {l : List Nd} {n : Int} {L : List Cf} (h : FiP l n L) : ∀ x ∈ L, ckS x.s = true := fun x hx => by
  obtain ⟨i, hi, e⟩ := List.mem_iff_getElem.1 hx
  rw [← e, ← show gCf L i = L[i] from getD_at L i zcf hi]
  exact h.ck i hi
theorem FiP.adj {l z : List Nd} {n n2 : Int} {L : List Cf} (h : FiP l n L) (hz : VT z n2) : FiP z n2 (adF z L) := by
  refine ⟨hz, adF_len z L, fun i hi => ?_, fun i hi => ?_⟩
  · rw [adF_len] at hi; rw [gCf_map z L i hi]
  · rw [adF_len] at hi; rw [gCf_map z L i hi]; exact sgF_ck h.all _
theorem CfR.adj {L : List Cf} (h : CfR L) (z : List Nd) : CfR (adF z L) := fun x hx => by
  obtain ⟨y, _, rfl⟩ := List.mem_map.1 hx
  exact sgF_r h _
structure Zk (l : List Nd) (n : Int) : Prop where
  v : VL l n
  nr : NmR l
theorem Zk.rem {l : List Nd} {n id : Int} (h : Zk l n) (he : (rmM l n id).2 = 0) : Zk (rmM l n id).1.1 (rmM l n id).1.2 := by
  obtain ⟨e, _, _, h3, h4⟩ := rmM_ok he
  rw [e]
  exact ⟨h.v.rm h3 h4, fun x hx => h.nr x ((rmN_mem l id x).1 hx).1⟩
end Go.Proofs.Ytcnilpdlcmpbbab
-- NEWGO
-- PRUNE: cl_lendx cl_use
-- ISG: Cs_isG
-- FLAT: Cs_flat
namespace Go.Proofs.Ytcnilpdlcmpbbab
set_option linter.unusedVariables false
set_option linter.unusedSimpArgs false
open Go.Proofs.Ytcnilpdlcmpbbab.Sh
set_option maxRecDepth 20000
theorem lowL_cons (L : List Cf) (a : Int) (r : List Int) (s : Sg) : lowL L (a :: r) s = lowL L r (limF s (sgF L a)) := rfl
structure MinS (z x y : Sg) : Prop where
  pm : z.pm = min x.pm y.pm
  q : z.q = min x.q y.q
  c1 : z.c1 = min x.c1 y.c1
structure LowP (low own up : Sg) : Prop where
  m : MinS low own up
  c0 : low.c0 ≤ low.c1
  o0 : low.c0 ≤ own.c0
  w : low.w = own.w
end Go.Proofs.Ytcnilpdlcmpbbab
-- NEWGO
-- PRUNE: cl_lendx cl_use
-- ISG: Cs_isG
-- FLAT: Cs_flat
namespace Go.Proofs.Ytcnilpdlcmpbbab
set_option linter.unusedVariables false
set_option linter.unusedSimpArgs false
open Go.Proofs.Ytcnilpdlcmpbbab.Sh
set_option maxRecDepth 20000
end Go.Proofs.Ytcnilpdlcmpbbab
-- NEWGO
-- PRUNE: cl_lendx cl_use
-- ISG: Cs_isG
-- FLAT: Cs_flat
namespace Go.Proofs.Ytcnilpdlcmpbbab
set_option linter.unusedVariables false
set_option linter.unusedSimpArgs false
open Go.Proofs.Ytcnilpdlcmpbbab.Sh
set_option maxRecDepth 20000
theorem lowL_r {L : List Cf} : ∀ (V : List Int) (s : Sg), SgR s → SgR (lowL L V s)
  | [], _, h => h
  | a :: r, s, h => by rw [lowL_cons]; exact lowL_r r _ h
theorem lwM_r {l : List Nd} {n : Int} {L : List Cf} (h : CfR L) (g : Int) : SgR (lwM l n L g) := by
  unfold lwM
  split
  · exact lowL_r _ _ (sgF_r h g)
  · exact ⟨by decide, by decide⟩
end Go.Proofs.Ytcnilpdlcmpbbab
