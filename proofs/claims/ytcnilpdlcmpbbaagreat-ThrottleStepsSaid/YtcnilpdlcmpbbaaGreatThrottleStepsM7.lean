/- Contracts of functions, told of values, on the way to ThrottleSteps (part 7). -/
import Derived.Test.YtcnilpdlcmpbbaaGreatThrottleStepsM3
import Derived.Test.YtcnilpdlcmpbbaaGreatThrottleStepsM6
-- short names of the library's lemmas
open Nat renaming reduceEqDiff → zaa, reduceLeDiff → zae, reduceAdd → zah, reduceSub → zai, reduceMul → zaj, reduceLT → zal, le_of_ble_eq_true → zaz, zero_le → zaV, lt_or_ge → zaX, zero_add → zaZ, zero_mul → zbf
open List renaming reduceReplicate → zab, forall_mem_cons → zad, not_mem_nil → zaf, map_cons → zag, map_nil → zak, append_nil → zau, getD_cons_zero → zaA, getD_cons_succ → zaB, length_cons → zaC, take_succ_cons → zaD, length_nil → zaE, set_cons_zero → zaF, set_cons_succ → zaG, flatten_cons → zaJ, flatten_nil → zaL, cons_append → zaM, nil_append → zaP, take_zero → zaQ, take_nil → zaS, length_map → zaU, take_of_length_le → zaY, length_take → zbc, drop_of_length_le → zbh
open Int renaming cast_ofNat_Int → zac, reduceEq → zam, reduceLT → zan, reduceLE → zao, natCast_add → zax, toNat_natCast → zba, toNat_zero → zbj
open Option renaming getD_some → zaH, getD_none → zaI
open Bool renaming and_eq_false_iff → zap, or_eq_false_iff → zaq, not_eq_false' → zar, not_eq_true' → zas, and_eq_true → zat, or_eq_true → zav, false_ne_true → zaW, false_eq_true → zbg
open And renaming intro → zaw
open Go.Proofs.YtcnilpdlcmpbbaaGreat.Sh.Cell renaming ren → zay, refs → zaR, frz → zbd, isG → zbe
open Go.Proofs.YtcnilpdlcmpbbaaGreat.Sh.SV renaming ren → zaK, renL → zaN, frzL → zbi
open Go.Proofs.YtcnilpdlcmpbbaaGreat.Sh.Row renaming ren → zaO
open Go.Proofs.YtcnilpdlcmpbbaaGreat.Sh.St renaming hpF → zaT, tmF → zbb
-- NEWGO
-- PRUNE: cl_lendx cl_use cl_lend
-- ISG: Cs_isG
-- FLAT: Cs_flat
namespace Go.Proofs.YtcnilpdlcmpbbaaGreat
set_option linter.unusedVariables false
set_option linter.unusedSimpArgs false
open Go.Proofs.YtcnilpdlcmpbbaaGreat.Sh
set_option maxRecDepth 20000
theorem gt_at {l : List Nd} {n : Int} {L : List Pl} (h : thC l n L = true) (g : Int) : ∀ id ∈ ancM l n g, ∃ t : Nat, ixR (fun x : Pl => decide (x.g = id)) L 0 = t ∧ t < L.length ∧ (gP L t).g = id ∧ gtM L id = (gP L t, true) := fun id hid => by
  have hv : ixR (fun x : Pl => decide (x.g = id)) L 0 ∈ wayM l n L g := by
    unfold wayM poL
    rw [if_pos h]
    exact List.mem_map.2 ⟨id, hid, rfl⟩
  obtain ⟨t, e, ht⟩ := way_in h g _ hv
  rcases ixR_at (fun x : Pl => decide (x.g = id)) zpl L 0 with ⟨h1, _⟩ | ⟨k, h1, h2, h3, h4⟩
  · omega
  · rw [zaZ] at h1
    obtain rfl : t = k := by omega
    have h3' : (gP L t).g = id := of_decide_eq_true h3
    refine ⟨t, e, ht, h3', ?_⟩
    have : L.find? (fun x => decide (x.g = id)) = some (gP L t) := by
      rw [List.find?_eq_some_iff_getElem]
      refine ⟨h3, t, h2, (getD_at L t zpl h2).symm, fun j hj => ?_⟩
      have := h4 j hj
      rw [show L.getD j zpl = L[j] from getD_at L j zpl (by omega)] at this
      rw [this]; rfl
    unfold gtM
    rw [this]
set_option maxHeartbeats 8000000 in
theorem rthblk_spec (l : List Nd) (n : Int) (L : List Pl) (k : Option Nat) (g cpu : Int) (hl : l.length ≤ 1000000) (hL : L.length ≤ 1000000) (hnm : NmR l) (hsm : ∀ x ∈ L, SmP x) (hwk : ∀ x ∈ L, Wk x) (hcl : ∀ x ∈ L, x.c.length ≤ 1000) : FnSpec Tryz.prog 54 [trV l none n, gr L k, i1 g, i1 cpu] [] (.tup [i1 (bkF L cpu (wayM l n L g)).1, b1 (bkF L cpu (wayM l n L g)).2]) [] := by
  have h1 := rthck_spec l n L k hl hL hnm hsm
  have h2 := ranc_spec l none n g hl hnm
  have hUl := ancM_len l n g
  unfold wayM
  cases hc : thC l n L with
  | false =>
    rw [hc] at h1
    rw [if_neg zaW, bkF]
    refine fnspec_of mixed TT_ok TT_cl ⟨fun _ => false, fun _ => [], 0, fun _ => false, fun _ => false⟩ Tryz.func54 rfl (by kernel_rfl) rfl 44 rfl [.tmp 8, .tmp 9] rfl ?_
    simp only [go_sem, zaa, zah, zai, zaj, zal, zae, ↓reduceIte, reduceCtorEq, zab, zac, zam, zan, zao]
    repeat' (first
 | (apply cl_plain
    case hs => rfl
    case ha => (simp only [zag, zak, prepV, prepC, idx, hpL', lookR, zaa, if_true, if_false]; rfl)
    case h => (first | exact h1 ..))
 | ((first | refine s1_id ?_ | refine swp_id ?_ | refine sops_id ?_ | refine s2_id ?_); simp only [go_sem, zaa, zah, zai, zaj, zal, zae, ↓reduceIte, reduceCtorEq, zab, zac, zam, zan, zao, zaK, zaN, zay, zaO, renO, bk, back, outUpsFrom, Ints_ren])
 | exact fs_nil trivial rfl
 | fail)
  | true =>
  rw [hc] at h1
  rw [if_pos rfl]
  have hat := gt_at hc g
  generalize ancM l n g = U at *
  refine fnspec_of mixed TT_ok TT_cl ⟨fun _ => false, fun _ => [], 0, fun _ => false, fun _ => false⟩ Tryz.func54 rfl (by kernel_rfl) rfl 44 rfl [.tmp 8, .tmp 9] rfl ?_
  simp only [go_sem, zaa, zah, zai, zaj, zal, zae, ↓reduceIte, reduceCtorEq, zab, zac, zam, zan, zao]
  repeat' (first
 | (apply cl_plain
    case hs => rfl
    case ha => (simp only [zag, zak, prepV, prepC, idx, hpL', lookR, zaa, if_true, if_false]; rfl)
    case h => (first | exact h1 .. | exact h2 ..))
 | ((first | refine s1_id ?_ | refine swp_id ?_ | refine sops_id ?_ | refine s2_id ?_); simp only [go_sem, zaa, zah, zai, zaj, zal, zae, ↓reduceIte, reduceCtorEq, zab, zac, zam, zan, zao, zaK, zaN, zay, zaO, renO, bk, back, outUpsFrom, Ints_ren])
 | (intros; (try simp only [zat, zav, zas, zar, zap, zaq, decide_eq_true_eq, decide_eq_false_iff_not] at *); omega))
  refine w_loop (ι := Nat) (fun m => ⟨[(1, gr L k), (3, i1 cpu), (10, gi U none), (11, i1 m)], [], 0⟩) (fun m => m ≤ U.length ∧ bkF L cpu (poL L U) = bkF L cpu (poL L (U.drop m))) (fun m => U.length - m) 0 ?_ ⟨zaV _, rfl⟩ ?_
  · (refine imp_ren _ _ _ [] (by simp) (by simp) (by simp) (zaz rfl) ?_ rfl (by simp only [zad, zaf, false_implies, implies_true, and_true, zaT, lookR, zaa, if_true, if_false, ↓reduceIte] <;> (repeat' apply zaw) <;> (first | rfl | trivial)) (by simp only [zad, zaf, false_implies, implies_true, and_true, true_and, flat_cons, flat_nil, flat_ints, flat_bools, flat_app, zaR, and_self, eq_self_iff_true, zau]); simp only [zag, zak, zad, zaf, false_implies, implies_true, and_true, lk, slot, zaK, zay, toN, zaa, if_true, if_false, ↓reduceIte, reduceCtorEq])
    all_goals ((repeat' apply zaw) <;> (first | rfl | trivial))
  clear h1 h2
  rintro m ⟨hm, hI⟩
  simp only at hm hI ⊢
  rcases zaX m U.length with hlt | hge
  case inr =>
    have c : ¬ (m : Int) < (U.length : Int) := by omega
    rw [zbh hge] at hI
    rw [hI, show poL L [] = [] from rfl, bkF]
    simp only [go_sem, zaa, zah, zai, zaj, zal, zae, ↓reduceIte, reduceCtorEq, zab, zac, zam, zan, zao, decide_eq_false c]
    repeat' (first
 | exact fs_nil trivial rfl
 | fail)
  have c : (m : Int) < (U.length : Int) := by omega
  obtain ⟨t, ht, htl, htg, hgt⟩ := hat (U.getD m 0) (getD_mem U m 0 hlt)
  rw [drop_getD U m 0 hlt, show poL L (U.getD m 0 :: U.drop (m + 1)) = ixR (fun x : Pl => decide (x.g = U.getD m 0)) L 0 :: poL L (U.drop (m + 1)) from rfl, bkF, ht, zba] at hI
  have hmem := getD_mem L t zpl htl
  have h3 := rgetP_spec L k (U.getD m 0) hL hcl
  rw [hgt] at h3
  have h2 := rroom_spec (gP L t) none cpu (hwk _ hmem)
  rw [htg] at hI
  clear htg hgt ht
  generalize proom (gP L t) cpu = pr at *
  generalize gP L t = x at *
  obtain ⟨a, b, cc, d, e, f, q1, q2, q3, q4⟩ := x
  simp only [plc, plt] at h2 h3
  by_cases hp : pr = 0
  · rw [if_pos hp] at hI
    rw [hI]
    simp only [go_sem, zaa, zah, zai, zaj, zal, zae, ↓reduceIte, reduceCtorEq, zab, zac, zam, zan, zao, decide_eq_true c, decide_eq_true hp]
    repeat' (first
 | with_reducible refine zaw ?_ ?_
 | (apply cl_plain
    case hs => rfl
    case ha => (simp only [zag, zak, prepV, prepC, idx, hpL', lookR, zaa, if_true, if_false]; rfl)
    case h => (first | exact h2 .. | exact h3 ..))
 | ((first | refine s1_id ?_ | refine swp_id ?_ | refine sops_id ?_ | refine s2_id ?_); simp only [decide_eq_true c, decide_eq_true hp, zaJ, zaL, zau, zaM, zaP, zaF, zaG, zaD, zaQ, zaS, zaC, zaE, go_sem, zaa, zah, zai, zaj, zal, zae, ↓reduceIte, reduceCtorEq, zab, zac, zam, zan, zao, zaK, zaN, zay, zaO, renO, bk, back, outUpsFrom, Ints_ren])
 | (intros; omega)
 | exact fs_nil trivial rfl
 | fail)
  · rw [if_neg hp] at hI
    simp only [go_sem, zaa, zah, zai, zaj, zal, zae, ↓reduceIte, reduceCtorEq, zab, zac, zam, zan, zao, decide_eq_true c, decide_eq_false hp]
    repeat' (first
 | with_reducible refine zaw ?_ ?_
 | (apply cl_plain
    case hs => rfl
    case ha => (simp only [zag, zak, prepV, prepC, idx, hpL', lookR, zaa, if_true, if_false]; rfl)
    case h => (first | exact h2 .. | exact h3 ..))
 | ((first | refine s1_id ?_ | refine swp_id ?_ | refine sops_id ?_ | refine s2_id ?_); simp only [decide_eq_true c, decide_eq_false hp, zaJ, zaL, zau, zaM, zaP, zaF, zaG, zaD, zaQ, zaS, zaC, zaE, go_sem, zaa, zah, zai, zaj, zal, zae, ↓reduceIte, reduceCtorEq, zab, zac, zam, zan, zao, zaK, zaN, zay, zaO, renO, bk, back, outUpsFrom, Ints_ren])
 | (intros; omega)
 | (intros; (try simp only [zat, zav, zas, zar, zap, zaq, decide_eq_true_eq, decide_eq_false_iff_not] at *); omega))
    refine le_mk (m + 1) ?_ ⟨hlt, hI⟩ (by omega)
    (refine imp_ren _ _ _ [] (by simp) (by simp) (by simp) (zaz rfl) ?_ rfl (by simp only [zad, zaf, false_implies, implies_true, and_true, zaT, lookR, zaa, if_true, if_false, ↓reduceIte] <;> (repeat' apply zaw) <;> (first | rfl | trivial)) (by simp only [zad, zaf, false_implies, implies_true, and_true, true_and, flat_cons, flat_nil, flat_ints, flat_bools, flat_app, zaR, and_self, eq_self_iff_true, zau]); simp only [zag, zak, zad, zaf, false_implies, implies_true, and_true, lk, slot, zaK, zay, toN, zaa, if_true, if_false, ↓reduceIte, reduceCtorEq])
    all_goals ((repeat' apply zaw) <;> (first | rfl | trivial | (simp only [zax]; done) | (simp only [zax]; rfl) | (simp only [zax]; trivial)))
end Go.Proofs.YtcnilpdlcmpbbaaGreat
-- NEWGO
-- PRUNE: cl_lendx cl_use cl_lend
-- ISG: Cs_isG
-- FLAT: Cs_flat
namespace Go.Proofs.YtcnilpdlcmpbbaaGreat
set_option linter.unusedVariables false
set_option linter.unusedSimpArgs false
open Go.Proofs.YtcnilpdlcmpbbaaGreat.Sh
set_option maxRecDepth 20000
end Go.Proofs.YtcnilpdlcmpbbaaGreat
-- NEWGO
-- PRUNE: cl_lendx cl_use cl_lend
-- ISG: Cs_isG
-- FLAT: Cs_flat
namespace Go.Proofs.YtcnilpdlcmpbbaaGreat
set_option linter.unusedVariables false
set_option linter.unusedSimpArgs false
open Go.Proofs.YtcnilpdlcmpbbaaGreat.Sh
set_option maxRecDepth 20000
theorem copyG_spec (x : Pl) (h0 : 0 < x.c.length) (h1 : x.c.length ≤ 1000) : FnSpec Tryz.prog 77 [plt x none] [] (plt x none) [] := by
  have h := (copy_spec x none h0 h1).frz1 (Ints_isG _)
  simpa only [plo, SV.frz, zbi, zbd, zag, zak, if_true, plt, plc] using h
end Go.Proofs.YtcnilpdlcmpbbaaGreat
-- NEWGO
-- PRUNE: cl_lendx cl_use cl_lend
-- ISG: Cs_isG
-- FLAT: Cs_flat
namespace Go.Proofs.YtcnilpdlcmpbbaaGreat
set_option linter.unusedVariables false
set_option linter.unusedSimpArgs false
open Go.Proofs.YtcnilpdlcmpbbaaGreat.Sh
set_option maxRecDepth 20000
theorem pl_cl (xs : List (Pl)) (c : Option Nat) (hl : xs.length ≤ 1000000) : FnSpec Tryz.prog 76 [gr xs c] [] (.one (.osl 0 0 xs.length none)) [some ⟨Cs xs, 10⟩] := by
  have hts : List.take (xs.length * 10) (Cs xs) = Cs xs := Cs_all xs _ (Nat.le_refl _)
  have hil : (Cs xs).length = xs.length * 10 := Cs_len xs
  by_cases h0 : 0 < xs.length
  · refine fnspec_of mixed TT_ok TT_cl ⟨fun _ => false, fun _ => [], 0, fun _ => false, fun _ => false⟩ Tryz.func76 rfl (by kernel_rfl) rfl 8 rfl [.tmp 2] rfl ?_
    simp only [go_sem, zaa, zah, zai, zaj, zal, zae, ↓reduceIte, reduceCtorEq, zab, zac, zam, zan, zao, hts, hil]
    repeat' (first
 | with_reducible refine zaw ?_ ?_
 | (intros; omega)
 | (intros; (try simp only [zat, zav, zas, zar, zap, zaq, decide_eq_true_eq, decide_eq_false_iff_not] at *); omega))
    (refine fs_flat [(5, ⟨Cs xs, 10⟩)] (by simp) (by simp only [zag, zak]; decide) (by simp only [go_sem, resV, resS, zaK, zaN, zay, zbb, zaT, idx, renO, zaO, evS, slot, lookR, zaa, ↓reduceIte, reduceCtorEq, if_true, if_false, zaH, zaI, zag, zak, sLoad, readAt, readNeed, Ints_ren, Ints_length, Ints_getD, and_true, true_and, zaA, zaB]; try decide) ?_ (by simp only [zad, zaf, false_implies, implies_true, and_true, zaT, lookR, zaa, if_true, if_false, ↓reduceIte, Cs_flat] <;> (repeat' apply zaw) <;> (first | rfl | trivial)) (by simp only [zad, zaf, false_implies, implies_true, and_true, true_and, flat_cons, flat_nil, flat_ints, flat_bools, flat_app, zaR, and_self, eq_self_iff_true, zau, Cs_flat]) ?_ <;> (try simp only [go_sem, resV, resS, zaK, zaN, zay, zbb, zaT, idx, renO, zaO, evS, slot, lookR, zaa, ↓reduceIte, reduceCtorEq, if_true, if_false, zaH, zaI, zag, zak, sLoad, readAt, readNeed, Ints_ren, Ints_length, Ints_getD, and_true, true_and, zaA, zaB]) <;> (try rfl))
  · have hn : xs = [] := List.length_eq_zero_iff.1 (by omega)
    subst hn
    refine FnSpec.niln (FnSpec.nilrow 10 ?_) (fun ad cc => ?_)
    · refine fnspec_of mixed TT_ok TT_cl ⟨fun _ => false, fun _ => [], 0, fun _ => false, fun _ => false⟩ Tryz.func76 rfl (by kernel_rfl) rfl 8 rfl [.tmp 2] rfl ?_
      simp only [go_sem, zaa, zah, zai, zaj, zal, zae, ↓reduceIte, reduceCtorEq, zab, zac, zam, zan, zao]
      repeat' (first
 | exact fs_nil trivial rfl
 | fail)
    · refine fnspec_of mixed TT_ok TT_cl ⟨fun _ => false, fun _ => [], 0, fun _ => false, fun _ => false⟩ Tryz.func76 rfl (by kernel_rfl) rfl 8 rfl [.tmp 2] rfl ?_
      simp only [go_sem, zaa, zah, zai, zaj, zal, zae, ↓reduceIte, reduceCtorEq, zab, zac, zam, zan, zao]
      repeat' (first
 | (intros; (try simp only [zat, zav, zas, zar, zap, zaq, decide_eq_true_eq, decide_eq_false_iff_not] at *); omega))
      (refine fs_flat [(5, ⟨[], 10⟩)] (by simp) (by simp only [zag, zak]; decide) (by simp only [go_sem, resV, resS, zaK, zaN, zay, zbb, zaT, idx, renO, zaO, evS, slot, lookR, zaa, ↓reduceIte, reduceCtorEq, if_true, if_false, zaH, zaI, zag, zak, sLoad, readAt, readNeed, Ints_ren, Ints_length, Ints_getD, and_true, true_and, zaA, zaB]; try decide) ?_ (by simp only [zad, zaf, false_implies, implies_true, and_true, zaT, lookR, zaa, if_true, if_false, ↓reduceIte, Cs_flat] <;> (repeat' apply zaw) <;> (first | rfl | trivial)) (by simp only [zad, zaf, false_implies, implies_true, and_true, true_and, flat_cons, flat_nil, flat_ints, flat_bools, flat_app, zaR, and_self, eq_self_iff_true, zau, Cs_flat]) ?_ <;> (try simp only [go_sem, resV, resS, zaK, zaN, zay, zbb, zaT, idx, renO, zaO, evS, slot, lookR, zaa, ↓reduceIte, reduceCtorEq, if_true, if_false, zaH, zaI, zag, zak, sLoad, readAt, readNeed, Ints_ren, Ints_length, Ints_getD, and_true, true_and, zaA, zaB]) <;> (try rfl))
theorem pl_set (L : List Pl) (i : Nat) (v : Pl) (h : i < L.length) : putAt (Cs L) (i * 10) (plc v none) = Cs (L.set i v) := Cs_set L i v h
theorem pl_self (L : List Pl) (i : Nat) : L.set i (gP L i) = L := by
  by_cases h : i < L.length
  · rw [show gP L i = L[i] from getD_at L i zpl h, List.set_getElem_self]
  · rw [List.set_eq_of_length_le (by omega)]
set_option maxHeartbeats 8000000 in
theorem pools_own (L : List Pl) (k : Option Nat) (hl : L.length ≤ 1000000) (hc0 : ∀ x ∈ L, 0 < x.c.length) (hc : ∀ x ∈ L, x.c.length ≤ 1000) : FnSpec Tryz.prog 42 [gr L k] [] (.one (.osl 0 0 L.length none)) [some ⟨Cs L, 10⟩] := by
  have h1 := pl_cl L k hl
  have hpl := pl_len L
  refine fnspec_of mixed TT_ok TT_cl ⟨fun _ => false, fun _ => [], 0, fun _ => false, fun _ => false⟩ Tryz.func42 rfl (by kernel_rfl) rfl 21 rfl [.tmp 2] rfl ?_
  simp only [go_sem, zaa, zah, zai, zaj, zal, zae, ↓reduceIte, reduceCtorEq, zab, zac, zam, zan, zao]
  repeat' (first
 | (apply cl_plain
    case hs => rfl
    case ha => (simp only [zag, zak, prepV, prepC, idx, hpL', lookR, zaa, if_true, if_false]; rfl)
    case h => (first | exact h1 ..))
 | ((first | refine s1_id ?_ | refine swp_id ?_ | refine sops_id ?_ | refine s2_id ?_); simp only [go_sem, zaa, zah, zai, zaj, zal, zae, ↓reduceIte, reduceCtorEq, zab, zac, zam, zan, zao, zaK, zaN, zay, zaO, renO, bk, back, outUpsFrom, Ints_ren])
 | (intros; (try simp only [zat, zav, zas, zar, zap, zaq, decide_eq_true_eq, decide_eq_false_iff_not] at *); omega))
  refine w_loop (ι := Nat) (fun m => ⟨[(0, .one (.osl 0 0 L.length none)), (7, i1 L.length), (8, i1 m)], [(0, some ⟨Cs L, 10⟩)], 1⟩) (fun m => m ≤ L.length) (fun m => L.length - m) 0 ?_ (zaV _) ?_
  · (refine imp_ren _ _ _ [(0, 2, ⟨Cs L, 10⟩)] (by simp) (by simp) (by simp) (zaz rfl) ?_ rfl (by simp only [zad, zaf, false_implies, implies_true, and_true, zaT, lookR, zaa, if_true, if_false, ↓reduceIte, Cs_flat] <;> (repeat' apply zaw) <;> (first | rfl | trivial)) (by simp only [zad, zaf, false_implies, implies_true, and_true, true_and, flat_cons, flat_nil, flat_ints, flat_bools, flat_app, zaR, and_self, eq_self_iff_true, zau, Cs_flat]); simp only [zag, zak, zad, zaf, false_implies, implies_true, and_true, lk, slot, zaK, zay, toN, zaa, if_true, if_false, ↓reduceIte, reduceCtorEq])
    all_goals ((repeat' apply zaw) <;> (first | rfl | trivial))
  clear h1
  intro m hm
  simp only at hm ⊢
  rcases zaX m L.length with hlt | hge
  case inr =>
    have c : ¬ (m : Int) < (L.length : Int) := by omega
    simp only [go_sem, zaa, zah, zai, zaj, zal, zae, ↓reduceIte, reduceCtorEq, zab, zac, zam, zan, zao, decide_eq_false c]
    repeat' (first
 | (intros; (try simp only [zat, zav, zas, zar, zap, zaq, decide_eq_true_eq, decide_eq_false_iff_not] at *); omega))
    (refine fs_flat [(0, ⟨Cs L, 10⟩)] (by simp) (by simp only [zag, zak]; decide) (by simp only [go_sem, resV, resS, zaK, zaN, zay, zbb, zaT, idx, renO, zaO, evS, slot, lookR, zaa, ↓reduceIte, reduceCtorEq, if_true, if_false, zaH, zaI, zag, zak, sLoad, readAt, readNeed, Ints_ren, Ints_length, Ints_getD, and_true, true_and, zaA, zaB]; try decide) ?_ (by simp only [zad, zaf, false_implies, implies_true, and_true, zaT, lookR, zaa, if_true, if_false, ↓reduceIte, Cs_flat] <;> (repeat' apply zaw) <;> (first | rfl | trivial)) (by simp only [zad, zaf, false_implies, implies_true, and_true, true_and, flat_cons, flat_nil, flat_ints, flat_bools, flat_app, zaR, and_self, eq_self_iff_true, zau, Cs_flat]) ?_ <;> (try simp only [go_sem, resV, resS, zaK, zaN, zay, zbb, zaT, idx, renO, zaO, evS, slot, lookR, zaa, ↓reduceIte, reduceCtorEq, if_true, if_false, zaH, zaI, zag, zak, sLoad, readAt, readNeed, Ints_ren, Ints_length, Ints_getD, and_true, true_and, zaA, zaB]) <;> (try rfl))
  have c : (m : Int) < (L.length : Int) := by omega
  have hT := pl_td L m hlt
  have hm' := getD_mem L m zpl hlt
  have h2 := copyG_spec (gP L m) (hc0 _ hm') (hc _ hm')
  have hS := pl_set L m (gP L m) hlt
  rw [pl_self] at hS
  generalize gP L m = x at *
  obtain ⟨a, b, cc, d, e, f, q1, q2, q3, q4⟩ := x
  simp only [plc, plt] at hT h2 hS
  simp only [go_sem, zaa, zah, zai, zaj, zal, zae, ↓reduceIte, reduceCtorEq, zab, zac, zam, zan, zao, decide_eq_true c, hT, hS]
  repeat' (first
 | with_reducible refine zaw ?_ ?_
 | (apply cl_plain
    case hs => rfl
    case ha => (simp only [zag, zak, prepV, prepC, idx, hpL', lookR, zaa, if_true, if_false]; rfl)
    case h => (first | exact h2 ..))
 | ((first | refine s1_id ?_ | refine swp_id ?_ | refine sops_id ?_ | refine s2_id ?_); simp only [decide_eq_true c, hT, hS, zaJ, zaL, zau, zaM, zaP, zaF, zaG, zaD, zaQ, zaS, zaC, zaE, go_sem, zaa, zah, zai, zaj, zal, zae, ↓reduceIte, reduceCtorEq, zab, zac, zam, zan, zao, zaK, zaN, zay, zaO, renO, bk, back, outUpsFrom, Ints_ren])
 | (intros; omega)
 | (intros; (try simp only [zat, zav, zas, zar, zap, zaq, decide_eq_true_eq, decide_eq_false_iff_not] at *); omega))
  refine le_mk (m + 1) ?_ hlt (by omega)
  (refine imp_ren _ _ _ [(0, 0, ⟨Cs L, 10⟩)] (by simp) (by simp) (by simp) (zaz rfl) ?_ rfl (by simp only [zad, zaf, false_implies, implies_true, and_true, zaT, lookR, zaa, if_true, if_false, ↓reduceIte, Cs_flat] <;> (repeat' apply zaw) <;> (first | rfl | trivial)) (by simp only [zad, zaf, false_implies, implies_true, and_true, true_and, flat_cons, flat_nil, flat_ints, flat_bools, flat_app, zaR, and_self, eq_self_iff_true, zau, Cs_flat]); simp only [zag, zak, zad, zaf, false_implies, implies_true, and_true, lk, slot, zaK, zay, toN, zaa, if_true, if_false, ↓reduceIte, reduceCtorEq])
  all_goals ((repeat' apply zaw) <;> (first | rfl | trivial | (simp only [zax]; done) | (simp only [zax]; rfl) | (simp only [zax]; trivial)))
set_option maxHeartbeats 8000000 in
theorem rpools_own (L : List Pl) (k : Option Nat) (hl : L.length ≤ 1000000) (hc : ∀ x ∈ L, x.c.length ≤ 1000) : FnSpec Tryz.prog 53 [gr L k] [] (.one (.osl 0 0 L.length none)) [some ⟨Cs L, 10⟩] := by
  have hpl := pl_len L
  refine fnspec_of mixed TT_ok TT_cl ⟨fun _ => false, fun _ => [], 0, fun _ => false, fun _ => false⟩ Tryz.func53 rfl (by kernel_rfl) rfl 20 rfl [.tmp 2] rfl ?_
  simp only [go_sem, zaa, zah, zai, zaj, zal, zae, ↓reduceIte, reduceCtorEq, zab, zac, zam, zan, zao]
  repeat' (first
 | (intros; (try simp only [zat, zav, zas, zar, zap, zaq, decide_eq_true_eq, decide_eq_false_iff_not] at *); omega))
  refine w_loop (ι := Nat) (fun m => ⟨[(0, gr L k), (3, .one (.osl 0 0 m none)), (4, i1 m)], [(0, some ⟨Cs (L.take m), 10⟩)], 1⟩) (fun m => m ≤ L.length) (fun m => L.length - m) 0 ?_ (zaV _) ?_
  · (refine Imp.trans (imp_nilA _ _ 3 10 99 (by simp only []; omega) rfl) ?_)
    (refine imp_ren _ _ _ [(0, 99, ⟨[], 10⟩)] (by simp) (by simp) (by simp) (zaz rfl) ?_ rfl (by simp only [zad, zaf, false_implies, implies_true, and_true, zaT, lookR, zaa, if_true, if_false, ↓reduceIte] <;> (repeat' apply zaw) <;> (first | rfl | trivial)) (by simp only [zad, zaf, false_implies, implies_true, and_true, true_and, flat_cons, flat_nil, flat_ints, flat_bools, flat_app, zaR, and_self, eq_self_iff_true, zau]); simp only [zag, zak, zad, zaf, false_implies, implies_true, and_true, lk, slot, zaK, zay, toN, zaa, if_true, if_false, ↓reduceIte, reduceCtorEq])
    all_goals ((repeat' apply zaw) <;> (first | rfl | trivial))
  intro m hm
  simp only at hm ⊢
  rcases zaX m L.length with hlt | hge
  case inr =>
    have c : ¬ (m : Int) < (L.length : Int) := by omega
    obtain rfl : m = L.length := by omega
    rw [List.take_length]
    simp only [go_sem, zaa, zah, zai, zaj, zal, zae, ↓reduceIte, reduceCtorEq, zab, zac, zam, zan, zao, decide_eq_false c]
    repeat' (first
 | (intros; (try simp only [zat, zav, zas, zar, zap, zaq, decide_eq_true_eq, decide_eq_false_iff_not] at *); omega))
    (refine fs_flat [(0, ⟨Cs L, 10⟩)] (by simp) (by simp only [zag, zak]; decide) (by simp only [go_sem, resV, resS, zaK, zaN, zay, zbb, zaT, idx, renO, zaO, evS, slot, lookR, zaa, ↓reduceIte, reduceCtorEq, if_true, if_false, zaH, zaI, zag, zak, sLoad, readAt, readNeed, Ints_ren, Ints_length, Ints_getD, and_true, true_and, zaA, zaB]; try decide) ?_ (by simp only [zad, zaf, false_implies, implies_true, and_true, zaT, lookR, zaa, if_true, if_false, ↓reduceIte, Cs_flat] <;> (repeat' apply zaw) <;> (first | rfl | trivial)) (by simp only [zad, zaf, false_implies, implies_true, and_true, true_and, flat_cons, flat_nil, flat_ints, flat_bools, flat_app, zaR, and_self, eq_self_iff_true, zau, Cs_flat]) ?_ <;> (try simp only [go_sem, resV, resS, zaK, zaN, zay, zbb, zaT, idx, renO, zaO, evS, slot, lookR, zaa, ↓reduceIte, reduceCtorEq, if_true, if_false, zaH, zaI, zag, zak, sLoad, readAt, readNeed, Ints_ren, Ints_length, Ints_getD, and_true, true_and, zaA, zaB]) <;> (try rfl))
  have c : (m : Int) < (L.length : Int) := by omega
  have hT := pl_td L m hlt
  have hm' := getD_mem L m zpl hlt
  have h2 := rcopyG_spec (gP L m) (hc _ hm')
  have hS : Cs (L.take m) ++ plc (gP L m) none = Cs (L.take (m + 1)) := by
    rw [take_getD L m zpl hlt]; exact Cs_snoc _ _
  have htl : (L.take m).length = m := by rw [zbc]; omega
  have htk : List.take (m * 10) (Cs (L.take m)) = Cs (L.take m) := Cs_all _ _ (by rw [htl]; exact Nat.le_refl _)
  have hpt := pl_len (L.take m)
  rw [htl] at hpt
  generalize L.take m = W at *
  generalize gP L m = x at *
  obtain ⟨a, b, cc, d, e, f, q1, q2, q3, q4⟩ := x
  simp only [plc, plt] at hT h2 hS
  simp only [go_sem, zaa, zah, zai, zaj, zal, zae, ↓reduceIte, reduceCtorEq, zab, zac, zam, zan, zao, decide_eq_true c, hT, hS]
  repeat' (first
 | with_reducible refine zaw ?_ ?_
 | (apply cl_plain
    case hs => rfl
    case ha => (simp only [zag, zak, prepV, prepC, idx, hpL', lookR, zaa, if_true, if_false]; rfl)
    case h => (first | exact h2 ..))
 | ((first | refine s1_id ?_ | refine swp_id ?_ | refine sops_id ?_ | refine s2_id ?_); simp only [decide_eq_true c, hT, hS, htk, zaJ, zaL, zau, zaM, zaP, zaF, zaG, zaD, zaQ, zaS, zaC, zaE, go_sem, zaa, zah, zai, zaj, zal, zae, ↓reduceIte, reduceCtorEq, zab, zac, zam, zan, zao, zaK, zaN, zay, zaO, renO, bk, back, outUpsFrom, Ints_ren])
 | (intros; omega)
 | (intros; (try simp only [zat, zav, zas, zar, zap, zaq, decide_eq_true_eq, decide_eq_false_iff_not] at *); omega))
  refine le_mk (m + 1) ?_ hlt (by omega)
  (refine imp_ren _ _ _ [(0, 12, ⟨Cs (L.take (m + 1)), 10⟩)] (by simp) (by simp) (by simp) (zaz rfl) ?_ rfl (by simp only [zad, zaf, false_implies, implies_true, and_true, zaT, lookR, zaa, if_true, if_false, ↓reduceIte, Cs_flat] <;> (repeat' apply zaw) <;> (first | rfl | trivial)) (by simp only [zad, zaf, false_implies, implies_true, and_true, true_and, flat_cons, flat_nil, flat_ints, flat_bools, flat_app, zaR, and_self, eq_self_iff_true, zau, Cs_flat]); simp only [zag, zak, zad, zaf, false_implies, implies_true, and_true, lk, slot, zaK, zay, toN, zaa, if_true, if_false, ↓reduceIte, reduceCtorEq])
  all_goals ((repeat' apply zaw) <;> (first | rfl | trivial | (simp only [zax]; done) | (simp only [zax]; rfl) | (simp only [zax]; trivial)))
end Go.Proofs.YtcnilpdlcmpbbaaGreat
-- NEWGO
-- PRUNE: cl_lendx cl_use cl_lend
-- ISG: Cs_isG
-- FLAT: Cs_flat
namespace Go.Proofs.YtcnilpdlcmpbbaaGreat
set_option linter.unusedVariables false
set_option linter.unusedSimpArgs false
open Go.Proofs.YtcnilpdlcmpbbaaGreat.Sh
set_option maxRecDepth 20000
theorem up_nodup {l : List Nd} {n : Int} (h : VT l n) : ∀ i, i < l.length → (upL l (gN l i).i).Nodup := fun i => by
  induction i using Nat.strongRecOn with
  | _ i ih =>
    intro hi
    by_cases h0 : i = 0
    · subst h0
      rw [h.root.1, h.up0]
      exact List.nodup_cons.2 ⟨zaf, List.nodup_nil⟩
    · rw [h.up hi h0]
      obtain ⟨j, hj, hp⟩ := (h.ch hi h0).par
      refine List.nodup_cons.2 ⟨fun hm => ?_, ?_⟩
      · rw [← hp] at hm
        obtain ⟨t, ht, e⟩ := up_le h j (by omega) _ hm
        have := h.asc t i (by omega) hi
        omega
      · rw [← hp]; exact ih j hj (by omega)
theorem anc_nodup (l : List Nd) (n g : Int) : (ancM l n g).Nodup := by
  unfold ancM
  cases hh : hasM l n g with
  | false => exact List.nodup_nil
  | true =>
    obtain ⟨hk, y, hy, rfl⟩ := hasM_iff.1 hh
    obtain ⟨i, hi, rfl⟩ := gN_mem l y hy
    rw [if_pos rfl]
    exact up_nodup ((chkT_iff l n).1 hk) i hi
theorem anc_ne {l : List Nd} {n g : Int} (h : hasM l n g = true) : (ancM l n g).length ≠ 0 := by
  unfold ancM
  rw [if_pos h]
  obtain ⟨hk, y, hy, rfl⟩ := hasM_iff.1 h
  obtain ⟨i, hi, rfl⟩ := gN_mem l y hy
  rw [((chkT_iff l n).1 hk).upT hi]
  simp
theorem thC_asc {l : List Nd} {n : Int} {L : List Pl} (h : thC l n L = true) {i j : Nat} (hi : i < L.length) (hj : j < L.length) (e : (gP L i).g = (gP L j).g) : i = j := by
  obtain ⟨hV, hl, hg⟩ := thC_at h
  rw [(hg i hi).1, (hg j hj).1] at e
  exact hV.asc.inj (by omega) (by omega) e
def upF (S : List Int) (f : Pl → Pl) (L : List Pl) : List Pl := L.map fun x => if x.g ∈ S then f x else x
theorem upF_len (S : List Int) (f : Pl → Pl) (L : List Pl) : (upF S f L).length = L.length := by simp [upF]
theorem upF_nil (f : Pl → Pl) (L : List Pl) : upF [] f L = L := by
  unfold upF
  rw [show (fun x : Pl => if x.g ∈ ([] : List Int) then f x else x) = id from funext fun x => if_neg zaf, List.map_id]
theorem upF_at (S : List Int) (f : Pl → Pl) (L : List Pl) (i : Nat) (h : i < L.length) : gP (upF S f L) i = if (gP L i).g ∈ S then f (gP L i) else gP L i := by
  unfold upF gP
  simp [List.getD_eq_getElem?_getD, h]
theorem upF_set (S : List Int) (f : Pl → Pl) (L : List Pl) (t : Nat) (h : t < L.length) (hu : ∀ j, j < L.length → (gP L j).g = (gP L t).g → j = t) : (upF S f L).set t (f (gP L t)) = upF (S ++ [(gP L t).g]) f L := by
  apply List.ext_getElem
  · rw [List.length_set, upF_len, upF_len]
  · intro i h1 h2
    rw [List.length_set, upF_len] at h1
    have a1 := upF_at S f L i h1
    have a2 := upF_at (S ++ [(gP L t).g]) f L i h1
    rw [show gP (upF S f L) i = (upF S f L)[i]'(by rw [upF_len]; exact h1) from getD_at _ i zpl _] at a1
    rw [show gP (upF (S ++ [(gP L t).g]) f L) i = (upF (S ++ [(gP L t).g]) f L)[i] from getD_at _ i zpl h2] at a2
    rw [a2, List.getElem_set]
    by_cases e : t = i
    · subst e
      rw [if_pos rfl, if_pos (by simp)]
    · rw [if_neg e, a1]
      have : (gP L i).g ≠ (gP L t).g := fun q => e (hu i h1 q).symm
      simp only [List.mem_append, List.mem_singleton, this, or_false]
theorem bkF_no {L : List Pl} {cpu : Int} : ∀ {W : List Int}, (bkF L cpu W).2 = false → ∀ i ∈ W, proom (gP L i.toNat) cpu ≠ 0
  | [], _, i, hi => by cases hi
  | w :: W, h, i, hi => by
    rw [bkF] at h
    split at h
    · cases h
    · rename_i hp
      rcases List.mem_cons.1 hi with rfl | hi
      · exact hp
      · exact bkF_no h i hi
theorem bkF_yes {L : List Pl} {cpu : Int} : ∀ {W : List Int}, (bkF L cpu W).2 = true → ∃ i ∈ W, proom (gP L i.toNat) cpu = 0 ∧ (bkF L cpu W).1 = (gP L i.toNat).g
  | [], h => by cases h
  | w :: W, h => by
    rw [bkF] at h ⊢
    split at h
    · rename_i hp
      rw [if_pos hp]
      exact ⟨w, List.mem_cons_self, hp, rfl⟩
    · rename_i hp
      rw [if_neg hp]
      obtain ⟨i, hi, h1, h2⟩ := bkF_yes h
      exact ⟨i, List.mem_cons_of_mem _ hi, h1, h2⟩
theorem psp_zero {x : Pl} {cpu : Int} (h : pck x = true) (hc : 0 ≤ cpu ∧ cpu < x.c.length) (hr : proom x cpu ≠ 0) : (pspend x cpu).2 = 0 := by
  rcases (pspend_ok h hc).2.2 with ⟨h1, _⟩ | ⟨_, _, h3, h4, _⟩
  · exact h1
  · refine absurd ?_ hr
    unfold proom
    rw [if_neg (by simp [pchk_in h hc]), if_neg (by simp [h3]), h4]
def spF (cpu : Int) (x : Pl) : Pl := (pspend x cpu).1
def thSp (l : List Nd) (n : Int) (L : List Pl) (g cpu : Int) : List Pl × Int :=
  if thC l n L = false then ([], 1) else if hasM l n g = false then ([], 4) else if wi cpu 0 ((gP L 0).c.length - 1) = false then ([], 3)
  else if (bkF L cpu (wayM l n L g)).2 = true then (upF [(bkF L cpu (wayM l n L g)).1] (spF cpu) L, 11) else (upF (ancM l n g) (spF cpu) L, 0)
set_option maxHeartbeats 16000000 in
theorem thspend_spec (l : List Nd) (n : Int) (L : List Pl) (k : Option Nat) (g cpu : Int) (hl : l.length ≤ 1000000) (hL : L.length ≤ 1000000) (hnm : NmR l) (hct : CtR l) : FnSpec Tryz.prog 12 [trV l none n, gr L k, i1 g, i1 cpu] [] (.tup [gr (thSp l n L g cpu).1 none, i1 (thSp l n L g cpu).2]) [] := by
  have h1 := thck_spec l n L k hl hL hnm hct
  have h2 := way_spec l n L k g hl hL hnm hct
  have hpl := pl_len L
  unfold thSp
  cases hc : thC l n L with
  | false =>
    rw [hc] at h1
    rw [if_pos rfl]
    refine fnspec_of mixed TT_ok TT_cl ⟨fun _ => false, fun _ => [], 0, fun _ => false, fun _ => false⟩ Tryz.func12 rfl (by kernel_rfl) rfl 92 rfl [.tmp 8, .tmp 9] rfl ?_
    simp only [go_sem, zaa, zah, zai, zaj, zal, zae, ↓reduceIte, reduceCtorEq, zab, zac, zam, zan, zao]
    repeat' (first
 | (apply cl_plain
    case hs => rfl
    case ha => (simp only [zag, zak, prepV, prepC, idx, hpL', lookR, zaa, if_true, if_false]; rfl)
    case h => (first | exact h1 ..))
 | ((first | refine s1_id ?_ | refine swp_id ?_ | refine sops_id ?_ | refine s2_id ?_); simp only [go_sem, zaa, zah, zai, zaj, zal, zae, ↓reduceIte, reduceCtorEq, zab, zac, zam, zan, zao, zaK, zaN, zay, zaO, renO, bk, back, outUpsFrom, Ints_ren])
 | (intros; (try simp only [zat, zav, zas, zar, zap, zaq, decide_eq_true_eq, decide_eq_false_iff_not] at *); omega))
    repeat' (first
 | exact fs_w trivial (svw_of (zaw cw_gnil (zaw (cw_rfl _) trivial)))
 | fail)
  | true =>
  rw [hc] at h1
  rw [if_neg (by decide)]
  obtain ⟨hV, hlen, hat⟩ := thC_at hc
  have hw : wayM l n L g = poL L (ancM l n g) := by unfold wayM; rw [if_pos hc]
  cases hh : hasM l n g with
  | false =>
    rw [if_pos rfl]
    have : wayM l n L g = [] := by
      rw [hw]; unfold ancM; rw [hh]; rfl
    rw [this] at h2
    refine fnspec_of mixed TT_ok TT_cl ⟨fun _ => false, fun _ => [], 0, fun _ => false, fun _ => false⟩ Tryz.func12 rfl (by kernel_rfl) rfl 92 rfl [.tmp 8, .tmp 9] rfl ?_
    simp only [go_sem, zaa, zah, zai, zaj, zal, zae, ↓reduceIte, reduceCtorEq, zab, zac, zam, zan, zao]
    repeat' (first
 | (apply cl_plain
    case hs => rfl
    case ha => (simp only [zag, zak, prepV, prepC, idx, hpL', lookR, zaa, if_true, if_false]; rfl)
    case h => (first | exact h1 .. | exact h2 ..))
 | ((first | refine s1_id ?_ | refine swp_id ?_ | refine sops_id ?_ | refine s2_id ?_); simp only [zaE, go_sem, zaa, zah, zai, zaj, zal, zae, ↓reduceIte, reduceCtorEq, zab, zac, zam, zan, zao, zaK, zaN, zay, zaO, renO, bk, back, outUpsFrom, Ints_ren])
 | (intros; (try simp only [zat, zav, zas, zar, zap, zaq, decide_eq_true_eq, decide_eq_false_iff_not] at *); omega))
    repeat' (first
 | exact fs_w trivial (svw_of (zaw cw_gnil (zaw (cw_rfl _) trivial)))
 | fail)
  | true =>
  rw [if_neg (by decide)]
  have hne := anc_ne hh
  have hL0 : 0 < L.length := by rw [hlen]; exact hV.ne
  have h50 := pl_f5 L 0 hL0 (.sc (.slice none 0 0))
  rw [zbf, zaZ] at h50
  have hUl := ancM_len l n g
  have hWl : (wayM l n L g).length = (ancM l n g).length := by rw [hw, poL_len]
  have c0 : ¬ ((wayM l n L g).length : Int) = 0 := by omega
  have hc1 := (hat 0 hL0).2.1
  cases hcp : wi cpu 0 ((gP L 0).c.length - 1) with
  | false =>
    rw [if_pos rfl]
    rw [wi_no] at hcp
    generalize wayM l n L g = W at *
    generalize gP L 0 = y at *
    by_cases k0 : cpu < 0
    · refine fnspec_of mixed TT_ok TT_cl ⟨fun _ => false, fun _ => [], 0, fun _ => false, fun _ => false⟩ Tryz.func12 rfl (by kernel_rfl) rfl 92 rfl [.tmp 8, .tmp 9] rfl ?_
      simp only [go_sem, zaa, zah, zai, zaj, zal, zae, ↓reduceIte, reduceCtorEq, zab, zac, zam, zan, zao, decide_eq_false c0, decide_eq_true k0]
      repeat' (first
 | (apply cl_plain
    case hs => rfl
    case ha => (simp only [zag, zak, prepV, prepC, idx, hpL', lookR, zaa, if_true, if_false]; rfl)
    case h => (first | exact h1 .. | exact h2 ..))
 | ((first | refine s1_id ?_ | refine swp_id ?_ | refine sops_id ?_ | refine s2_id ?_); simp only [decide_eq_false c0, decide_eq_true k0, go_sem, zaa, zah, zai, zaj, zal, zae, ↓reduceIte, reduceCtorEq, zab, zac, zam, zan, zao, zaK, zaN, zay, zaO, renO, bk, back, outUpsFrom, Ints_ren])
 | (intros; (try simp only [zat, zav, zas, zar, zap, zaq, decide_eq_true_eq, decide_eq_false_iff_not] at *); omega))
      repeat' (first
 | exact fs_w trivial (svw_of (zaw cw_gnil (zaw (cw_rfl _) trivial)))
 | fail)
    · have k1 : (y.c.length : Int) ≤ cpu := by omega
      refine fnspec_of mixed TT_ok TT_cl ⟨fun _ => false, fun _ => [], 0, fun _ => false, fun _ => false⟩ Tryz.func12 rfl (by kernel_rfl) rfl 92 rfl [.tmp 8, .tmp 9] rfl ?_
      simp only [go_sem, zaa, zah, zai, zaj, zal, zae, ↓reduceIte, reduceCtorEq, zab, zac, zam, zan, zao, decide_eq_false c0, decide_eq_false k0, h50, decide_eq_true k1]
      repeat' (first
 | with_reducible refine zaw ?_ ?_
 | (apply cl_plain
    case hs => rfl
    case ha => (simp only [zag, zak, prepV, prepC, idx, hpL', lookR, zaa, if_true, if_false]; rfl)
    case h => (first | exact h1 .. | exact h2 ..))
 | ((first | refine s1_id ?_ | refine swp_id ?_ | refine sops_id ?_ | refine s2_id ?_); simp only [decide_eq_false c0, decide_eq_false k0, h50, zbj, zbf, zaZ, decide_eq_true k1, go_sem, zaa, zah, zai, zaj, zal, zae, ↓reduceIte, reduceCtorEq, zab, zac, zam, zan, zao, zaK, zaN, zay, zaO, renO, bk, back, outUpsFrom, Ints_ren])
 | (intros; omega)
 | (intros; (try simp only [zat, zav, zas, zar, zap, zaq, decide_eq_true_eq, decide_eq_false_iff_not] at *); omega))
      repeat' (first
 | exact fs_w trivial (svw_of (zaw cw_gnil (zaw (cw_rfl _) trivial)))
 | fail)
  | true =>
  rw [if_neg (by decide)]
  rw [wi_iff] at hcp
  have k0 : ¬ cpu < 0 := by omega
  have k1 : ¬ ((gP L 0).c.length : Int) ≤ cpu := by omega
  have hcc : ∀ i, i < L.length → pck (gP L i) = true ∧ (0 ≤ cpu ∧ cpu < (gP L i).c.length) := fun i hi => ⟨(hat i hi).2.1, by rw [(hat i hi).2.2]; omega⟩
  have hall : ∀ x ∈ L, pck x = true := fun x hx => by
    obtain ⟨i, hi, rfl⟩ := List.getElem_of_mem hx
    rw [← getD_at L i zpl hi]
    exact (hat i hi).2.1
  have h3 := pools_own L k hL (fun x hx => by have := nums (hall x hx); have := this.len; have := (pck_iff.1 (hall x hx)).2.2.2.1; omega) (fun x hx => pck_len (hall x hx))
  have h4 := thblk_spec l n L k g cpu hl hL hnm hct
  cases hb : (bkF L cpu (wayM l n L g)).2 with
  | true =>
    rw [if_pos rfl]
    obtain ⟨i, hi, hp0, e1⟩ := bkF_yes hb
    obtain ⟨t, rfl, ht⟩ := way_in hc g i hi
    rw [zba] at hp0 e1
    rw [hb, e1] at h4
    rw [e1]
    have h5 := pos_spec L none (gP L t).g hL
    have hpos : ixR (fun x : Pl => decide (x.g = (gP L t).g)) L 0 = t := by
      rcases ixR_at (fun x : Pl => decide (x.g = (gP L t).g)) zpl L 0 with ⟨_, h2⟩ | ⟨k, h1, h2, h3, _⟩
      · exact absurd rfl (of_decide_eq_false (h2 (gP L t) (getD_mem L t zpl ht)))
      · rw [h1, zaZ, thC_asc hc h2 ht (of_decide_eq_true h3)]
    rw [hpos] at h5
    have hT := pl_td L t ht
    have hS := pl_set L t (spF cpu (gP L t)) ht
    have hR := upF_set [] (spF cpu) L t ht fun j hj e => thC_asc hc hj ht e
    rw [upF_nil, zaP] at hR
    rw [hR] at hS
    have h6 := spend_spec (gP L t) none cpu (pck_len (hcc t ht).1)
    have hRl := upF_len [(gP L t).g] (spF cpu) L
    have he : (gP L t).g = (gP L t).g := rfl
    generalize wayM l n L g = W at *
    generalize upF [(gP L t).g] (spF cpu) L = R at *
    unfold spF at hS
    generalize pspend (gP L t) cpu = r at *
    obtain ⟨⟨s0, s1, s2, s3, s4, s5, s6, s7, s8, s9⟩, r2⟩ := r
    generalize gP L t = x at *
    obtain ⟨a, b, cc, d, e, f, q1, q2, q3, q4⟩ := x
    simp only [plc, plt, pre] at hT h6 hS h4 h5
    clear hcc hall hat hR
    refine fnspec_of mixed TT_ok TT_cl ⟨fun _ => false, fun _ => [], 0, fun _ => false, fun _ => false⟩ Tryz.func12 rfl (by kernel_rfl) rfl 92 rfl [.tmp 8, .tmp 9] rfl ?_
    simp only [go_sem, zaa, zah, zai, zaj, zal, zae, ↓reduceIte, reduceCtorEq, zab, zac, zam, zan, zao, decide_eq_false c0, decide_eq_false k0, h50, decide_eq_false k1, hT, hS]
    repeat' (first
 | with_reducible refine zaw ?_ ?_
 | (apply cl_plain
    case hs => rfl
    case ha => (simp only [zag, zak, prepV, prepC, idx, hpL', lookR, zaa, if_true, if_false]; rfl)
    case h => (first | exact h1 .. | exact h2 .. | exact h3 .. | exact h4 .. | exact h5 .. | exact h6 ..))
 | (apply cl_show
    case ha => (simp only [zag, zak, prepV, prepC, idx, hpL', lookR, zaa, if_true, if_false]; rfl)
    case hs => ((simp [snaps, SV.refs, zaR, idx, hpL', lookR]) <;> (repeat' apply zaw) <;> (first | exact Ints_isG _ | exact Cs_isG _))
    case h => (first | exact h1 .. | exact h2 .. | exact h3 .. | exact h4 .. | exact h5 .. | exact h6 ..)
    case hg => ((simp [SV.noG, SV.noGL, Cell.noG]) <;> (repeat' apply zaw) <;> exact Ints_noG _))
 | ((first | refine s1_id ?_ | refine swp_id ?_ | refine sops_id ?_ | refine s2_id ?_); simp only [decide_eq_false c0, decide_eq_false k0, h50, zbj, zbf, zaZ, decide_eq_false k1, hT, hS, zaJ, zaL, zau, zaM, zaP, zaF, zaG, zaD, zaQ, zaS, zaC, zaE, go_sem, zaa, zah, zai, zaj, zal, zae, ↓reduceIte, reduceCtorEq, zab, zac, zam, zan, zao, zaK, zaN, zay, zaO, renO, bk, back, outUpsFrom, Ints_ren])
 | (intros; omega)
 | (intros; (try simp only [zat, zav, zas, zar, zap, zaq, decide_eq_true_eq, decide_eq_false_iff_not] at *); omega))
    (refine fs_frz 27 ⟨Cs R, 10⟩ (by simp only [zaT, lookR, zaa, if_true, if_false, ↓reduceIte]) (by first | exact Ints_isG _ | exact Bools_isG _ | exact Cs_isG _ | (simp [zbe]; done)) ?_; simp only [frzTm, SV.frz, zbi, zbd, frzHp, frzO, Ints_frz, Bools_frz, zag, zak, zaa, if_true, if_false, ↓reduceIte])
    apply fs_nil <;> (try simp only [go_sem, resV, resS, zaK, zaN, zay, zbb, zaT, idx, renO, zaO, evS, slot, lookR, zaa, ↓reduceIte, reduceCtorEq, if_true, if_false, zaH, zaI, zag, zak, sLoad, readAt, readNeed, Ints_ren, Ints_length, Ints_getD, and_true, true_and, zaA, zaB]) <;> (try rfl)
    show SV.tup [.one (.gsl (Cs R) 0 L.length none), i1 11] = SV.tup [.one (.gsl (Cs R) 0 R.length none), i1 11]
    rw [hRl]
  | false =>
  rw [if_neg (by decide)]
  have hno := bkF_no hb
  have hnd := anc_nodup l n g
  have hga := gt_at hc g
  have hb1 : (bkF L cpu (wayM l n L g)).2 = false := hb
  rw [hb] at h4
  generalize (bkF L cpu (wayM l n L g)).1 = bid at *
  rw [hw] at hno h2 c0
  clear hb hb1 hw hWl
  generalize ancM l n g = U at *
  generalize hW : poL L U = W at *
  have hWU : W.length = U.length := by rw [← hW, poL_len]
  refine fnspec_of mixed TT_ok TT_cl ⟨fun _ => false, fun _ => [], 0, fun _ => false, fun _ => false⟩ Tryz.func12 rfl (by kernel_rfl) rfl 92 rfl [.tmp 8, .tmp 9] rfl ?_
  simp only [go_sem, zaa, zah, zai, zaj, zal, zae, ↓reduceIte, reduceCtorEq, zab, zac, zam, zan, zao, decide_eq_false c0, decide_eq_false k0, h50, decide_eq_false k1]
  repeat' (first
 | with_reducible refine zaw ?_ ?_
 | (apply cl_plain
    case hs => rfl
    case ha => (simp only [zag, zak, prepV, prepC, idx, hpL', lookR, zaa, if_true, if_false]; rfl)
    case h => (first | exact h1 .. | exact h2 .. | exact h3 .. | exact h4 ..))
 | ((first | refine s1_id ?_ | refine swp_id ?_ | refine sops_id ?_ | refine s2_id ?_); simp only [decide_eq_false c0, decide_eq_false k0, h50, zbj, zbf, zaZ, decide_eq_false k1, go_sem, zaa, zah, zai, zaj, zal, zae, ↓reduceIte, reduceCtorEq, zab, zac, zam, zan, zao, zaK, zaN, zay, zaO, renO, bk, back, outUpsFrom, Ints_ren])
 | (intros; omega)
 | (intros; (try simp only [zat, zav, zas, zar, zap, zaq, decide_eq_true_eq, decide_eq_false_iff_not] at *); omega))
  refine w_loop (ι := Nat) (fun m => ⟨[(3, i1 cpu), (11, .one (.osl 0 0 L.length none)), (68, gi W none), (69, i1 W.length), (70, i1 m)], [(0, some ⟨Cs (upF (U.take m) (spF cpu) L), 10⟩)], 1⟩) (fun m => m ≤ U.length) (fun m => U.length - m) 0 ?_ (zaV _) ?_
  · simp only [zaQ, upF_nil]
    (refine imp_ren _ _ _ [(0, 27, ⟨Cs L, 10⟩)] (by simp) (by simp) (by simp) (zaz rfl) ?_ rfl (by simp only [zad, zaf, false_implies, implies_true, and_true, zaT, lookR, zaa, if_true, if_false, ↓reduceIte, Cs_flat] <;> (repeat' apply zaw) <;> (first | rfl | trivial)) (by simp only [zad, zaf, false_implies, implies_true, and_true, true_and, flat_cons, flat_nil, flat_ints, flat_bools, flat_app, zaR, and_self, eq_self_iff_true, zau, Cs_flat]); simp only [zag, zak, zad, zaf, false_implies, implies_true, and_true, lk, slot, zaK, zay, toN, zaa, if_true, if_false, ↓reduceIte, reduceCtorEq])
    all_goals ((repeat' apply zaw) <;> (first | rfl | trivial))
  clear h1 h2 h3 h4
  intro m hm
  simp only at hm ⊢
  rcases zaX m U.length with hlt | hge
  case inr =>
    have c : ¬ (m : Int) < (W.length : Int) := by omega
    rw [zaY hge]
    have hRl := upF_len U (spF cpu) L
    simp only [go_sem, zaa, zah, zai, zaj, zal, zae, ↓reduceIte, reduceCtorEq, zab, zac, zam, zan, zao, decide_eq_false c]
    repeat' (first
 | (intros; (try simp only [zat, zav, zas, zar, zap, zaq, decide_eq_true_eq, decide_eq_false_iff_not] at *); omega))
    (refine fs_frz 0 ⟨Cs (upF U (spF cpu) L), 10⟩ (by simp only [zaT, lookR, zaa, if_true, if_false, ↓reduceIte]) (by first | exact Ints_isG _ | exact Bools_isG _ | exact Cs_isG _ | (simp [zbe]; done)) ?_; simp only [frzTm, SV.frz, zbi, zbd, frzHp, frzO, Ints_frz, Bools_frz, zag, zak, zaa, if_true, if_false, ↓reduceIte])
    apply fs_nil <;> (try simp only [go_sem, resV, resS, zaK, zaN, zay, zbb, zaT, idx, renO, zaO, evS, slot, lookR, zaa, ↓reduceIte, reduceCtorEq, if_true, if_false, zaH, zaI, zag, zak, sLoad, readAt, readNeed, Ints_ren, Ints_length, Ints_getD, and_true, true_and, zaA, zaB]) <;> (try rfl)
    show SV.tup [.one (.gsl (Cs (upF U (spF cpu) L)) 0 L.length none), i1 0] = SV.tup [.one (.gsl (Cs (upF U (spF cpu) L)) 0 (upF U (spF cpu) L).length none), i1 0]
    rw [hRl]
  have c : (m : Int) < (W.length : Int) := by omega
  obtain ⟨t, ht, htl, htg, _⟩ := hga (U.getD m 0) (getD_mem U m 0 hlt)
  have hwt : W.getD m 0 = t := by
    have h1 := poL_take L U m hlt
    rw [← hW, ← ht]
    unfold poL
    simp [List.getD_eq_getElem?_getD, hlt]
  have hwm : W.getD m 0 ∈ W := getD_mem W m 0 (by omega)
  have hr := hno _ hwm
  rw [hwt, zba] at hr
  have hmn : (gP L t).g ∉ U.take m := by
    rw [htg]
    intro hm2
    have h1 := hnd
    rw [← List.take_append_drop m U, List.nodup_append] at h1
    exact h1.2.2 _ hm2 _ (by rw [drop_getD U m 0 hlt]; exact List.mem_cons_self) rfl
  have hA := upF_at (U.take m) (spF cpu) L t htl
  rw [if_neg hmn] at hA
  have hR := upF_set (U.take m) (spF cpu) L t htl fun j hj e => thC_asc hc hj htl e
  rw [htg, ← take_getD U m 0 hlt] at hR
  have hCl := upF_len (U.take m) (spF cpu) L
  have hT := pl_td (upF (U.take m) (spF cpu) L) t (by omega)
  have hS := pl_set (upF (U.take m) (spF cpu) L) t (spF cpu (gP L t)) (by omega)
  have hpc := pl_len (upF (U.take m) (spF cpu) L)
  rw [hR] at hS
  rw [hA] at hT
  rw [hCl] at hpc
  have h6 := spend_spec (gP L t) none cpu (pck_len (hcc t htl).1)
  have hz := psp_zero (hcc t htl).1 (hcc t htl).2 hr
  unfold spF at hS
  generalize pspend (gP L t) cpu = r at *
  obtain ⟨⟨s0, s1, s2, s3, s4, s5, s6, s7, s8, s9⟩, r2⟩ := r
  clear hR hA hmn hr hno hat hcc
  simp only at hz
  subst hz
  change putAt (Cs (upF (U.take m) (spF cpu) L)) (t * 10) _ = Cs (upF (U.take (m + 1)) (spF cpu) L) at hS
  generalize upF (U.take m) (spF cpu) L = C at *
  generalize gP L t = x at *
  obtain ⟨a, b, cc, d, e, f, q1, q2, q3, q4⟩ := x
  simp only [plc, plt, pre] at hT h6 hS
  simp only [go_sem, zaa, zah, zai, zaj, zal, zae, ↓reduceIte, reduceCtorEq, zab, zac, zam, zan, zao, decide_eq_true c, hwt, hT, hS]
  repeat' (first
 | with_reducible refine zaw ?_ ?_
 | (apply cl_plain
    case hs => rfl
    case ha => (simp only [zag, zak, prepV, prepC, idx, hpL', lookR, zaa, if_true, if_false]; rfl)
    case h => (first | exact h6 ..))
 | ((first | refine s1_id ?_ | refine swp_id ?_ | refine sops_id ?_ | refine s2_id ?_); simp only [decide_eq_true c, hwt, hT, hS, zaJ, zaL, zau, zaM, zaP, zaF, zaG, zaD, zaQ, zaS, zaC, zaE, go_sem, zaa, zah, zai, zaj, zal, zae, ↓reduceIte, reduceCtorEq, zab, zac, zam, zan, zao, zaK, zaN, zay, zaO, renO, bk, back, outUpsFrom, Ints_ren])
 | (intros; omega)
 | (intros; (try simp only [zat, zav, zas, zar, zap, zaq, decide_eq_true_eq, decide_eq_false_iff_not] at *); omega))
  refine le_mk (m + 1) ?_ hlt (by omega)
  (refine imp_ren _ _ _ [(0, 0, ⟨Cs (upF (U.take (m + 1)) (spF cpu) L), 10⟩)] (by simp) (by simp) (by simp) (zaz rfl) ?_ rfl (by simp only [zad, zaf, false_implies, implies_true, and_true, zaT, lookR, zaa, if_true, if_false, ↓reduceIte, Cs_flat] <;> (repeat' apply zaw) <;> (first | rfl | trivial)) (by simp only [zad, zaf, false_implies, implies_true, and_true, true_and, flat_cons, flat_nil, flat_ints, flat_bools, flat_app, zaR, and_self, eq_self_iff_true, zau, Cs_flat]); simp only [zag, zak, zad, zaf, false_implies, implies_true, and_true, lk, slot, zaK, zay, toN, zaa, if_true, if_false, ↓reduceIte, reduceCtorEq])
  all_goals ((repeat' apply zaw) <;> (first | rfl | trivial | (simp only [zax]; done) | (simp only [zax]; rfl) | (simp only [zax]; trivial)))
end Go.Proofs.YtcnilpdlcmpbbaaGreat
-- NEWGO
-- PRUNE: cl_lendx cl_use cl_lend
-- ISG: Cs_isG
-- FLAT: Cs_flat
namespace Go.Proofs.YtcnilpdlcmpbbaaGreat
set_option linter.unusedVariables false
set_option linter.unusedSimpArgs false
open Go.Proofs.YtcnilpdlcmpbbaaGreat.Sh
set_option maxRecDepth 20000
def mpN (f : Pl → Pl) (L : List Pl) (m : Nat) : List Pl := (L.take m).map f ++ L.drop m
theorem mpN_len (f : Pl → Pl) (L : List Pl) (m : Nat) : (mpN f L m).length = L.length := by
  unfold mpN
  rw [List.length_append, zaU, zbc, List.length_drop]; omega
theorem mpN_0 (f : Pl → Pl) (L : List Pl) : mpN f L 0 = L := by simp [mpN]
theorem mpN_all (f : Pl → Pl) (L : List Pl) (m : Nat) (h : L.length ≤ m) : mpN f L m = L.map f := by
  unfold mpN
  rw [zaY h, zbh h, zau]
theorem mpN_at (f : Pl → Pl) (L : List Pl) (m : Nat) (h : m < L.length) : gP (mpN f L m) m = gP L m := by
  unfold mpN gP
  rw [List.getD_eq_getElem?_getD, List.getElem?_append_right (by rw [zaU, zbc]; omega), zaU, zbc, Nat.min_eq_left (by omega), Nat.sub_self]
  simp [List.getD_eq_getElem?_getD]
theorem mpN_set (f : Pl → Pl) (L : List Pl) (m : Nat) (h : m < L.length) : (mpN f L m).set m (f (gP L m)) = mpN f L (m + 1) := by
  unfold mpN
  rw [take_getD L m zpl h, List.map_append, List.append_assoc, List.set_append_right _ _ (by rw [zaU, zbc]; omega), zaU, zbc, Nat.min_eq_left (by omega), Nat.sub_self, drop_getD L m zpl h]
  rfl
theorem mpN_skip (f : Pl → Pl) (L : List Pl) (m : Nat) (h : m < L.length) (hf : f (gP L m) = gP L m) : mpN f L m = mpN f L (m + 1) := by
  rw [← mpN_set f L m h, hf]
  have := pl_self (mpN f L m) m
  rw [mpN_at f L m h] at this
  exact this.symm
set_option maxHeartbeats 16000000 in
theorem rthspend_spec (l : List Nd) (n : Int) (L : List Pl) (k : Option Nat) (g cpu : Int) (hl : l.length ≤ 1000000) (hL : L.length ≤ 1000000) (hnm : NmR l) (hsm : ∀ x ∈ L, SmP x) (hwk : ∀ x ∈ L, Wk x) (hcl : ∀ x ∈ L, x.c.length ≤ 1000) : FnSpec Tryz.prog 21 [trV l none n, gr L k, i1 g, i1 cpu] [] (.tup [gr (thSp l n L g cpu).1 none, i1 (thSp l n L g cpu).2]) [] := by
  have h1 := rthck_spec l n L k hl hL hnm hsm
  have h2 := rhas_spec l none n g hl hnm
  have hpl := pl_len L
  unfold thSp
  cases hc : thC l n L with
  | false =>
    rw [hc] at h1
    rw [if_pos rfl]
    refine fnspec_of mixed TT_ok TT_cl ⟨fun _ => false, fun _ => [], 0, fun _ => false, fun _ => false⟩ Tryz.func21 rfl (by kernel_rfl) rfl 94 rfl [.tmp 8, .tmp 9] rfl ?_
    simp only [go_sem, zaa, zah, zai, zaj, zal, zae, ↓reduceIte, reduceCtorEq, zab, zac, zam, zan, zao]
    repeat' (first
 | (apply cl_plain
    case hs => rfl
    case ha => (simp only [zag, zak, prepV, prepC, idx, hpL', lookR, zaa, if_true, if_false]; rfl)
    case h => (first | exact h1 ..))
 | ((first | refine s1_id ?_ | refine swp_id ?_ | refine sops_id ?_ | refine s2_id ?_); simp only [go_sem, zaa, zah, zai, zaj, zal, zae, ↓reduceIte, reduceCtorEq, zab, zac, zam, zan, zao, zaK, zaN, zay, zaO, renO, bk, back, outUpsFrom, Ints_ren])
 | (intros; (try simp only [zat, zav, zas, zar, zap, zaq, decide_eq_true_eq, decide_eq_false_iff_not] at *); omega))
    repeat' (first
 | exact fs_w trivial (svw_of (zaw cw_gnil (zaw (cw_rfl _) trivial)))
 | fail)
  | true =>
  rw [hc] at h1
  rw [if_neg (by decide)]
  obtain ⟨hV, hlen, hat⟩ := thC_at hc
  cases hh : hasM l n g with
  | false =>
    rw [hh] at h2
    rw [if_pos rfl]
    refine fnspec_of mixed TT_ok TT_cl ⟨fun _ => false, fun _ => [], 0, fun _ => false, fun _ => false⟩ Tryz.func21 rfl (by kernel_rfl) rfl 94 rfl [.tmp 8, .tmp 9] rfl ?_
    simp only [go_sem, zaa, zah, zai, zaj, zal, zae, ↓reduceIte, reduceCtorEq, zab, zac, zam, zan, zao]
    repeat' (first
 | (apply cl_plain
    case hs => rfl
    case ha => (simp only [zag, zak, prepV, prepC, idx, hpL', lookR, zaa, if_true, if_false]; rfl)
    case h => (first | exact h1 .. | exact h2 ..))
 | ((first | refine s1_id ?_ | refine swp_id ?_ | refine sops_id ?_ | refine s2_id ?_); simp only [go_sem, zaa, zah, zai, zaj, zal, zae, ↓reduceIte, reduceCtorEq, zab, zac, zam, zan, zao, zaK, zaN, zay, zaO, renO, bk, back, outUpsFrom, Ints_ren])
 | (intros; (try simp only [zat, zav, zas, zar, zap, zaq, decide_eq_true_eq, decide_eq_false_iff_not] at *); omega))
    repeat' (first
 | exact fs_w trivial (svw_of (zaw cw_gnil (zaw (cw_rfl _) trivial)))
 | fail)
  | true =>
  rw [hh] at h2
  rw [if_neg (by decide)]
  have hL0 : 0 < L.length := by rw [hlen]; exact hV.ne
  have h50 := pl_f5 L 0 hL0 (.sc (.slice none 0 0))
  rw [zbf, zaZ] at h50
  have hc1 := (hat 0 hL0).2.1
  cases hcp : wi cpu 0 ((gP L 0).c.length - 1) with
  | false =>
    rw [if_pos rfl]
    rw [wi_no] at hcp
    generalize gP L 0 = y at *
    by_cases k0 : cpu < 0
    · refine fnspec_of mixed TT_ok TT_cl ⟨fun _ => false, fun _ => [], 0, fun _ => false, fun _ => false⟩ Tryz.func21 rfl (by kernel_rfl) rfl 94 rfl [.tmp 8, .tmp 9] rfl ?_
      simp only [go_sem, zaa, zah, zai, zaj, zal, zae, ↓reduceIte, reduceCtorEq, zab, zac, zam, zan, zao, decide_eq_true k0]
      repeat' (first
 | (apply cl_plain
    case hs => rfl
    case ha => (simp only [zag, zak, prepV, prepC, idx, hpL', lookR, zaa, if_true, if_false]; rfl)
    case h => (first | exact h1 .. | exact h2 ..))
 | ((first | refine s1_id ?_ | refine swp_id ?_ | refine sops_id ?_ | refine s2_id ?_); simp only [decide_eq_true k0, go_sem, zaa, zah, zai, zaj, zal, zae, ↓reduceIte, reduceCtorEq, zab, zac, zam, zan, zao, zaK, zaN, zay, zaO, renO, bk, back, outUpsFrom, Ints_ren])
 | (intros; (try simp only [zat, zav, zas, zar, zap, zaq, decide_eq_true_eq, decide_eq_false_iff_not] at *); omega))
      repeat' (first
 | exact fs_w trivial (svw_of (zaw cw_gnil (zaw (cw_rfl _) trivial)))
 | fail)
    · have k1 : (y.c.length : Int) ≤ cpu := by omega
      refine fnspec_of mixed TT_ok TT_cl ⟨fun _ => false, fun _ => [], 0, fun _ => false, fun _ => false⟩ Tryz.func21 rfl (by kernel_rfl) rfl 94 rfl [.tmp 8, .tmp 9] rfl ?_
      simp only [go_sem, zaa, zah, zai, zaj, zal, zae, ↓reduceIte, reduceCtorEq, zab, zac, zam, zan, zao, decide_eq_false k0, h50, decide_eq_true k1]
      repeat' (first
 | with_reducible refine zaw ?_ ?_
 | (apply cl_plain
    case hs => rfl
    case ha => (simp only [zag, zak, prepV, prepC, idx, hpL', lookR, zaa, if_true, if_false]; rfl)
    case h => (first | exact h1 .. | exact h2 ..))
 | ((first | refine s1_id ?_ | refine swp_id ?_ | refine sops_id ?_ | refine s2_id ?_); simp only [decide_eq_false k0, h50, zbj, zbf, zaZ, decide_eq_true k1, go_sem, zaa, zah, zai, zaj, zal, zae, ↓reduceIte, reduceCtorEq, zab, zac, zam, zan, zao, zaK, zaN, zay, zaO, renO, bk, back, outUpsFrom, Ints_ren])
 | (intros; omega)
 | (intros; (try simp only [zat, zav, zas, zar, zap, zaq, decide_eq_true_eq, decide_eq_false_iff_not] at *); omega))
      repeat' (first
 | exact fs_w trivial (svw_of (zaw cw_gnil (zaw (cw_rfl _) trivial)))
 | fail)
  | true =>
  rw [if_neg (by decide)]
  rw [wi_iff] at hcp
  have k0 : ¬ cpu < 0 := by omega
  have k1 : ¬ ((gP L 0).c.length : Int) ≤ cpu := by omega
  have h3 := rpools_own L k hL hcl
  have h4 := rthblk_spec l n L k g cpu hl hL hnm hsm hwk hcl
  have h5 := ranc_spec l none n g hl hnm
  have hUl := ancM_len l n g
  generalize ancM l n g = U at *
  generalize bkF L cpu (wayM l n L g) = q at *
  obtain ⟨at', bl⟩ := q
  obtain ⟨S, hS⟩ : ∃ S, S = if bl = true then [at'] else U := ⟨_, rfl⟩
  have hres : (if (at', bl).2 = true then (upF [(at', bl).1] (spF cpu) L, (11 : Int)) else (upF U (spF cpu) L, 0)) = (upF S (spF cpu) L, if bl = true then 11 else 0) := by
    cases bl with
    | true => rw [if_pos rfl, hS]; rfl
    | false => rw [if_neg zaW, hS]; rfl
  rw [hres]
  clear hres
  simp only at h4
  obtain ⟨f, hf⟩ : ∃ f : Pl → Pl, f = fun x => if x.g ∈ S then spF cpu x else x := ⟨_, rfl⟩
  have hup : upF S (spF cpu) L = L.map f := by rw [hf]; rfl
  rw [hup]
  refine fnspec_of mixed TT_ok TT_cl ⟨fun _ => false, fun _ => [], 0, fun _ => false, fun _ => false⟩ Tryz.func21 rfl (by kernel_rfl) rfl 94 rfl [.tmp 8, .tmp 9] rfl ?_
  simp only [go_sem, zaa, zah, zai, zaj, zal, zae, ↓reduceIte, reduceCtorEq, zab, zac, zam, zan, zao, decide_eq_false k0, h50, decide_eq_false k1]
  repeat' (first
 | with_reducible refine zaw ?_ ?_
 | (apply cl_plain
    case hs => rfl
    case ha => (simp only [zag, zak, prepV, prepC, idx, hpL', lookR, zaa, if_true, if_false]; rfl)
    case h => (first | exact h1 .. | exact h2 .. | exact h3 .. | exact h4 .. | exact h5 ..))
 | ((first | refine s1_id ?_ | refine swp_id ?_ | refine sops_id ?_ | refine s2_id ?_); simp only [decide_eq_false k0, h50, zbj, zbf, zaZ, decide_eq_false k1, go_sem, zaa, zah, zai, zaj, zal, zae, ↓reduceIte, reduceCtorEq, zab, zac, zam, zan, zao, zaK, zaN, zay, zaO, renO, bk, back, outUpsFrom, Ints_ren])
 | (intros; omega)
 | (intros; (try simp only [zat, zav, zas, zar, zap, zaq, decide_eq_true_eq, decide_eq_false_iff_not] at *); omega))
  refine w_loop (ι := Nat) (fun m => ⟨[(3, i1 cpu), (10, .one (.osl 0 0 L.length none)), (11, gi U none), (12, i1 at'), (13, b1 bl), (14, i1 m)], [(0, some ⟨Cs (mpN f L m), 10⟩)], 1⟩) (fun m => m ≤ L.length) (fun m => L.length - m) 0 ?_ (zaV _) ?_
  · simp only [mpN_0]
    (refine imp_ren _ _ _ [(0, 26, ⟨Cs L, 10⟩)] (by simp) (by simp) (by simp) (zaz rfl) ?_ rfl (by simp only [zad, zaf, false_implies, implies_true, and_true, zaT, lookR, zaa, if_true, if_false, ↓reduceIte, Cs_flat] <;> (repeat' apply zaw) <;> (first | rfl | trivial)) (by simp only [zad, zaf, false_implies, implies_true, and_true, true_and, flat_cons, flat_nil, flat_ints, flat_bools, flat_app, zaR, and_self, eq_self_iff_true, zau, Cs_flat]); simp only [zag, zak, zad, zaf, false_implies, implies_true, and_true, lk, slot, zaK, zay, toN, zaa, if_true, if_false, ↓reduceIte, reduceCtorEq])
    all_goals ((repeat' apply zaw) <;> (first | rfl | trivial))
  clear h1 h2 h3 h4 h5
  intro m hm
  simp only at hm ⊢
  rcases zaX m L.length with hlt | hge
  case inr =>
    have c : ¬ (m : Int) < (L.length : Int) := by omega
    rw [mpN_all f L m hge]
    have hRl : (L.map f).length = L.length := zaU f
    cases bl with
    | true =>
      simp only [go_sem, zaa, zah, zai, zaj, zal, zae, ↓reduceIte, reduceCtorEq, zab, zac, zam, zan, zao, decide_eq_false c, if_true]
      repeat' (first
 | (intros; (try simp only [zat, zav, zas, zar, zap, zaq, decide_eq_true_eq, decide_eq_false_iff_not] at *); omega))
      (refine fs_frz 0 ⟨Cs (L.map f), 10⟩ (by simp only [zaT, lookR, zaa, if_true, if_false, ↓reduceIte]) (by first | exact Ints_isG _ | exact Bools_isG _ | exact Cs_isG _ | (simp [zbe]; done)) ?_; simp only [frzTm, SV.frz, zbi, zbd, frzHp, frzO, Ints_frz, Bools_frz, zag, zak, zaa, if_true, if_false, ↓reduceIte])
      apply fs_nil <;> (try simp only [go_sem, resV, resS, zaK, zaN, zay, zbb, zaT, idx, renO, zaO, evS, slot, lookR, zaa, ↓reduceIte, reduceCtorEq, if_true, if_false, zaH, zaI, zag, zak, sLoad, readAt, readNeed, Ints_ren, Ints_length, Ints_getD, and_true, true_and, zaA, zaB]) <;> (try rfl)
      show SV.tup [.one (.gsl (Cs (L.map f)) 0 L.length none), i1 11] = SV.tup [.one (.gsl (Cs (L.map f)) 0 (L.map f).length none), i1 11]
      rw [hRl]
    | false =>
      simp only [go_sem, zaa, zah, zai, zaj, zal, zae, ↓reduceIte, reduceCtorEq, zab, zac, zam, zan, zao, decide_eq_false c, zbg, if_false]
      repeat' (first
 | (intros; (try simp only [zat, zav, zas, zar, zap, zaq, decide_eq_true_eq, decide_eq_false_iff_not] at *); omega))
      (refine fs_frz 0 ⟨Cs (L.map f), 10⟩ (by simp only [zaT, lookR, zaa, if_true, if_false, ↓reduceIte]) (by first | exact Ints_isG _ | exact Bools_isG _ | exact Cs_isG _ | (simp [zbe]; done)) ?_; simp only [frzTm, SV.frz, zbi, zbd, frzHp, frzO, Ints_frz, Bools_frz, zag, zak, zaa, if_true, if_false, ↓reduceIte])
      apply fs_nil <;> (try simp only [go_sem, resV, resS, zaK, zaN, zay, zbb, zaT, idx, renO, zaO, evS, slot, lookR, zaa, ↓reduceIte, reduceCtorEq, if_true, if_false, zaH, zaI, zag, zak, sLoad, readAt, readNeed, Ints_ren, Ints_length, Ints_getD, and_true, true_and, zaA, zaB]) <;> (try rfl)
      show SV.tup [.one (.gsl (Cs (L.map f)) 0 L.length none), i1 0] = SV.tup [.one (.gsl (Cs (L.map f)) 0 (L.map f).length none), i1 0]
      rw [hRl]
  have c : (m : Int) < (L.length : Int) := by omega
  have hmem := getD_mem L m zpl hlt
  have hAt := mpN_at f L m hlt
  have hCl := mpN_len f L m
  have hT := pl_td (mpN f L m) m (by omega)
  have q0 := pl_f0 (mpN f L m) m (by omega) (.sc (.int .i64 0))
  have hSt := pl_set (mpN f L m) m (f (gP L m)) (by omega)
  rw [mpN_set f L m hlt] at hSt
  have hpc := pl_len (mpN f L m)
  rw [hAt] at hT q0
  rw [hCl] at hpc
  have h6 := rspend_spec (gP L m) none cpu (hwk _ hmem)
  have hha := has_spec U none (gP L m).g (by omega)
  have hfe : f (gP L m) = if (gP L m).g ∈ S then (pspend (gP L m) cpu).1 else gP L m := by rw [hf]; rfl
  have hsk := mpN_skip f L m hlt
  have hSd : decide ((gP L m).g ∈ S) = if bl = true then decide ((gP L m).g = at') else decide ((gP L m).g ∈ U) := by
    rw [hS]
    cases bl with
    | true => simp
    | false => simp
  change putAt (Cs (mpN f L m)) (m * 10) _ = Cs (mpN f L (m + 1)) at hSt
  clear hf hup hS hat hAt
  by_cases hin : (gP L m).g ∈ S
  · rw [if_pos hin] at hfe
    rw [hfe] at hSt
    rw [decide_eq_true hin] at hSd
    clear hsk hfe
    generalize mpN f L m = C at *
    generalize pspend (gP L m) cpu = r at *
    obtain ⟨⟨s0, s1, s2, s3, s4, s5, s6, s7, s8, s9⟩, r2⟩ := r
    generalize gP L m = x at *
    obtain ⟨a, b, cc, d, e, ff, q1, q2, q3, q4⟩ := x
    simp only [plc, plt, pre] at hT h6 hSt
    simp only at q0 hha hSd
    cases bl with
    | true =>
      simp only [if_true] at hSd
      simp only [go_sem, zaa, zah, zai, zaj, zal, zae, ↓reduceIte, reduceCtorEq, zab, zac, zam, zan, zao, decide_eq_true c, hT, q0, hSt, ← hSd]
      repeat' (first
 | with_reducible refine zaw ?_ ?_
 | (apply cl_plain
    case hs => rfl
    case ha => (simp only [zag, zak, prepV, prepC, idx, hpL', lookR, zaa, if_true, if_false]; rfl)
    case h => (first | exact h6 ..))
 | ((first | refine s1_id ?_ | refine swp_id ?_ | refine sops_id ?_ | refine s2_id ?_); simp only [decide_eq_true c, hT, q0, hSt, ← hSd, zaJ, zaL, zau, zaM, zaP, zaF, zaG, zaD, zaQ, zaS, zaC, zaE, go_sem, zaa, zah, zai, zaj, zal, zae, ↓reduceIte, reduceCtorEq, zab, zac, zam, zan, zao, zaK, zaN, zay, zaO, renO, bk, back, outUpsFrom, Ints_ren])
 | (intros; omega)
 | (intros; (try simp only [zat, zav, zas, zar, zap, zaq, decide_eq_true_eq, decide_eq_false_iff_not] at *); omega))
      refine le_mk (m + 1) ?_ hlt (by omega)
      (refine imp_ren _ _ _ [(0, 0, ⟨Cs (mpN f L (m + 1)), 10⟩)] (by simp) (by simp) (by simp) (zaz rfl) ?_ rfl (by simp only [zad, zaf, false_implies, implies_true, and_true, zaT, lookR, zaa, if_true, if_false, ↓reduceIte, Cs_flat] <;> (repeat' apply zaw) <;> (first | rfl | trivial)) (by simp only [zad, zaf, false_implies, implies_true, and_true, true_and, flat_cons, flat_nil, flat_ints, flat_bools, flat_app, zaR, and_self, eq_self_iff_true, zau, Cs_flat]); simp only [zag, zak, zad, zaf, false_implies, implies_true, and_true, lk, slot, zaK, zay, toN, zaa, if_true, if_false, ↓reduceIte, reduceCtorEq])
      all_goals ((repeat' apply zaw) <;> (first | rfl | trivial | (simp only [zax]; done) | (simp only [zax]; rfl) | (simp only [zax]; trivial)))
    | false =>
      simp only [zbg, if_false] at hSd
      rw [← hSd] at hha
      simp only [go_sem, zaa, zah, zai, zaj, zal, zae, ↓reduceIte, reduceCtorEq, zab, zac, zam, zan, zao, decide_eq_true c, hT, q0, hSt]
      repeat' (first
 | with_reducible refine zaw ?_ ?_
 | (apply cg_tp
    case hl => rfl
    case ha => (simp only [zag, zak, prepV, prepC, idx, hpL', lookR, zaa, if_true, if_false]; rfl)
    case hs => rfl
    case h => (first | exact h6 .. | exact hha ..))
 | (apply cl_plain
    case hs => rfl
    case ha => (simp only [zag, zak, prepV, prepC, idx, hpL', lookR, zaa, if_true, if_false]; rfl)
    case h => (first | exact h6 .. | exact hha ..))
 | ((first | refine s1_id ?_ | refine swp_id ?_ | refine sops_id ?_ | refine s2_id ?_); simp only [decide_eq_true c, hT, q0, hSt, zaJ, zaL, zau, zaM, zaP, zaF, zaG, zaD, zaQ, zaS, zaC, zaE, go_sem, zaa, zah, zai, zaj, zal, zae, ↓reduceIte, reduceCtorEq, zab, zac, zam, zan, zao, zaK, zaN, zay, zaO, renO, bk, back, outUpsFrom, Ints_ren])
 | (intros; omega)
 | (intros; (try simp only [zat, zav, zas, zar, zap, zaq, decide_eq_true_eq, decide_eq_false_iff_not] at *); omega))
      refine le_mk (m + 1) ?_ hlt (by omega)
      (refine imp_ren _ _ _ [(0, 0, ⟨Cs (mpN f L (m + 1)), 10⟩)] (by simp) (by simp) (by simp) (zaz rfl) ?_ rfl (by simp only [zad, zaf, false_implies, implies_true, and_true, zaT, lookR, zaa, if_true, if_false, ↓reduceIte, Cs_flat] <;> (repeat' apply zaw) <;> (first | rfl | trivial)) (by simp only [zad, zaf, false_implies, implies_true, and_true, true_and, flat_cons, flat_nil, flat_ints, flat_bools, flat_app, zaR, and_self, eq_self_iff_true, zau, Cs_flat]); simp only [zag, zak, zad, zaf, false_implies, implies_true, and_true, lk, slot, zaK, zay, toN, zaa, if_true, if_false, ↓reduceIte, reduceCtorEq])
      all_goals ((repeat' apply zaw) <;> (first | rfl | trivial | (simp only [zax]; done) | (simp only [zax]; rfl) | (simp only [zax]; trivial)))
  · rw [if_neg hin] at hfe
    have hsk := hsk hfe
    rw [decide_eq_false hin] at hSd
    clear hfe hSt h6
    rw [hsk] at hT q0 hpc
    simp only [hsk]
    generalize gP L m = x at *
    cases bl with
    | true =>
      simp only [if_true] at hSd
      simp only [go_sem, zaa, zah, zai, zaj, zal, zae, ↓reduceIte, reduceCtorEq, zab, zac, zam, zan, zao, decide_eq_true c, q0, ← hSd]
      repeat' (first
 | with_reducible refine zaw ?_ ?_
 | (intros; omega)
 | (intros; (try simp only [zat, zav, zas, zar, zap, zaq, decide_eq_true_eq, decide_eq_false_iff_not] at *); omega))
      refine le_mk (m + 1) ?_ hlt (by omega)
      (refine imp_ren _ _ _ [(0, 0, ⟨Cs (mpN f L (m + 1)), 10⟩)] (by simp) (by simp) (by simp) (zaz rfl) ?_ rfl (by simp only [zad, zaf, false_implies, implies_true, and_true, zaT, lookR, zaa, if_true, if_false, ↓reduceIte, Cs_flat] <;> (repeat' apply zaw) <;> (first | rfl | trivial)) (by simp only [zad, zaf, false_implies, implies_true, and_true, true_and, flat_cons, flat_nil, flat_ints, flat_bools, flat_app, zaR, and_self, eq_self_iff_true, zau, Cs_flat]); simp only [zag, zak, zad, zaf, false_implies, implies_true, and_true, lk, slot, zaK, zay, toN, zaa, if_true, if_false, ↓reduceIte, reduceCtorEq])
      all_goals ((repeat' apply zaw) <;> (first | rfl | trivial | (simp only [zax]; done) | (simp only [zax]; rfl) | (simp only [zax]; trivial)))
    | false =>
      simp only [zbg, if_false] at hSd
      rw [← hSd] at hha
      simp only [go_sem, zaa, zah, zai, zaj, zal, zae, ↓reduceIte, reduceCtorEq, zab, zac, zam, zan, zao, decide_eq_true c, q0]
      repeat' (first
 | with_reducible refine zaw ?_ ?_
 | (apply cg_tp
    case hl => rfl
    case ha => (simp only [zag, zak, prepV, prepC, idx, hpL', lookR, zaa, if_true, if_false]; rfl)
    case hs => rfl
    case h => (first | exact hha ..))
 | ((first | refine s1_id ?_ | refine swp_id ?_ | refine sops_id ?_ | refine s2_id ?_); simp only [decide_eq_true c, q0, zaJ, zaL, zau, zaM, zaP, zaF, zaG, zaD, zaQ, zaS, zaC, zaE, go_sem, zaa, zah, zai, zaj, zal, zae, ↓reduceIte, reduceCtorEq, zab, zac, zam, zan, zao, zaK, zaN, zay, zaO, renO, bk, back, outUpsFrom, Ints_ren])
 | (intros; omega)
 | (intros; (try simp only [zat, zav, zas, zar, zap, zaq, decide_eq_true_eq, decide_eq_false_iff_not] at *); omega))
      refine le_mk (m + 1) ?_ hlt (by omega)
      (refine imp_ren _ _ _ [(0, 0, ⟨Cs (mpN f L (m + 1)), 10⟩)] (by simp) (by simp) (by simp) (zaz rfl) ?_ rfl (by simp only [zad, zaf, false_implies, implies_true, and_true, zaT, lookR, zaa, if_true, if_false, ↓reduceIte, Cs_flat] <;> (repeat' apply zaw) <;> (first | rfl | trivial)) (by simp only [zad, zaf, false_implies, implies_true, and_true, true_and, flat_cons, flat_nil, flat_ints, flat_bools, flat_app, zaR, and_self, eq_self_iff_true, zau, Cs_flat]); simp only [zag, zak, zad, zaf, false_implies, implies_true, and_true, lk, slot, zaK, zay, toN, zaa, if_true, if_false, ↓reduceIte, reduceCtorEq])
      all_goals ((repeat' apply zaw) <;> (first | rfl | trivial | (simp only [zax]; done) | (simp only [zax]; rfl) | (simp only [zax]; trivial)))
end Go.Proofs.YtcnilpdlcmpbbaaGreat
-- NEWGO
-- PRUNE: cl_lendx cl_use
-- ISG: Cs_isG
-- FLAT: Cs_flat
namespace Go.Proofs.YtcnilpdlcmpbbaaGreat
set_option linter.unusedVariables false
set_option linter.unusedSimpArgs false
open Go.Proofs.YtcnilpdlcmpbbaaGreat.Sh
set_option maxRecDepth 20000
def lendD : FuncId → List Nat := fun f => if f = 11 then [0] else if f = 37 then [0] else []
def lendN : FuncId → List Nat := fun f => if f = 11 then [0] else []
def dgV (L : List Int) (l : List Nd) (j : Nat) : Int := if nxV L j 15 = 14 then nxV L (nxA L j 15) 9 - 1 else (gN l (nxV L (nxA L j 15) l.length).toNat).i
def dgA (L : List Int) (l : List Nd) (j : Nat) : Nat := if nxV L j 15 = 14 then nxA L (nxA L j 15) 9 else nxA L (nxA L j 15) l.length
set_option maxHeartbeats 8000000 in
theorem dgroup_spec (L : List Int) (hl : L.length ≤ 600) (hr : ∀ x ∈ L, -9223372036854775808 ≤ x ∧ x ≤ 9223372036854775807) (j : Nat) (l : List Nd) (n : Int) (h1 : 1 ≤ l.length) (hll : l.length ≤ 64) :
    FnSpec Tryz.prog 20 [dp, trV l none n] [dice L j] (i1 (dgV L l j)) [some (dice L (dgA L l j))] := by
  have hnl := nd_len l
  have n1 := bool_spec L j 15 hl hr (by decide)
  unfold dgV dgA
  generalize nxA L j 15 = j2 at *
  have c0 : ¬ (l.length : Int) = 0 := by omega
  by_cases hb : nxV L j 15 = 14
  · rw [decide_eq_true (by omega : nxV L j 15 = 15 - 1)] at n1
    have n2 := next_spec L j2 9 hl hr (by decide)
    have r2 := nx_rng L j2 9 (by decide)
    rw [if_pos hb, if_pos hb]
    generalize nxV L j2 9 = v at *
    refine fnspec_of mixed TT_ok TT_cl ⟨fun _ => false, lendD, 1, fun _ => false, fun _ => false⟩ Tryz.func20 rfl (by kernel_rfl) rfl 26 rfl [.tmp 4] rfl ?_
    simp only [go_sem, zaa, zah, zai, zaj, zal, zae, ↓reduceIte, reduceCtorEq, zab, zac, zam, zan, zao, lendD]
    repeat' (first
 | with_reducible refine zaw ?_ ?_
 | (apply cl_lend
    case hr => (simp only [zag, zak, hpL', lookR, zaa, if_true, if_false]; first | exact map1 _ | exact map2 _ _ | exact map3 _ _ _)
    case ha => (simp only [zag, zak, prepV, prepC, idx, hpL', lookR, zaa, if_true, if_false]; rfl)
    case hs => rfl
    case hn => decide
    case h => (first | exact n1 .. | exact n2 ..)
    case hf => (simp only [zad, zaf, false_implies, implies_true, and_true, true_and, flat_cons, flat_nil, flat_ints, flat_bools, flat_app, Cs_flat, zaR, and_self, eq_self_iff_true, zau])
    case hl => (simp only [zaC, zaE]; decide))
 | ((first | refine s1_id ?_ | refine swp_id ?_ | refine sops_id ?_ | refine s2_id ?_); simp only [lendD, dice, go_sem, zaa, zah, zai, zaj, zal, zae, ↓reduceIte, reduceCtorEq, zab, zac, zam, zan, zao, zaK, zaN, zay, zaO, renO, bk, back, outUpsFrom, Ints_ren])
 | (intros; omega)
 | (intros; (try simp only [zat, zav, zas, zar, zap, zaq, decide_eq_true_eq, decide_eq_false_iff_not] at *); omega))
    (refine fs_flat [(0, dice L (nxA L j2 9))] (by simp) (by simp only [zag, zak]; decide) (by simp only [go_sem, resV, resS, zaK, zaN, zay, zbb, zaT, idx, renO, zaO, evS, slot, lookR, zaa, ↓reduceIte, reduceCtorEq, if_true, if_false, zaH, zaI, zag, zak, sLoad, readAt, readNeed, Ints_ren, Ints_length, Ints_getD, and_true, true_and, zaA, zaB]; try decide) ?_ (by simp only [zad, zaf, false_implies, implies_true, and_true, zaT, lookR, zaa, if_true, if_false, ↓reduceIte, dice] <;> (repeat' apply zaw) <;> (first | rfl | trivial)) (by simp only [zad, zaf, false_implies, implies_true, and_true, true_and, flat_cons, flat_nil, flat_ints, flat_bools, flat_app, zaR, and_self, eq_self_iff_true, zau, dice]) ?_ <;> (try simp only [go_sem, resV, resS, zaK, zaN, zay, zbb, zaT, idx, renO, zaO, evS, slot, lookR, zaa, ↓reduceIte, reduceCtorEq, if_true, if_false, zaH, zaI, zag, zak, sLoad, readAt, readNeed, Ints_ren, Ints_length, Ints_getD, and_true, true_and, zaA, zaB]) <;> (try rfl))
  · rw [decide_eq_false (by omega : ¬ nxV L j 15 = 15 - 1)] at n1
    have n2 := next_spec L j2 l.length hl hr (by omega)
    have r2 := nx_rng L j2 l.length (by omega)
    obtain ⟨v, hv⟩ : ∃ v : Nat, nxV L j2 l.length = v := ⟨(nxV L j2 l.length).toNat, by omega⟩
    rw [hv] at n2 r2 ⊢
    obtain ⟨g1, _⟩ := nd_f l v (by omega) (.sc (.int .i64 0))
    rw [if_neg hb, if_neg hb]
    rw [zba]
    refine fnspec_of mixed TT_ok TT_cl ⟨fun _ => false, lendD, 1, fun _ => false, fun _ => false⟩ Tryz.func20 rfl (by kernel_rfl) rfl 26 rfl [.tmp 4] rfl ?_
    simp only [go_sem, zaa, zah, zai, zaj, zal, zae, ↓reduceIte, reduceCtorEq, zab, zac, zam, zan, zao, lendD, decide_eq_false c0, g1]
    repeat' (first
 | with_reducible refine zaw ?_ ?_
 | (unfold OKC; kernel_rfl)
 | (unfold EDG; kernel_rfl)
 | (apply cl_lend
    case hr => (simp only [zag, zak, hpL', lookR, zaa, if_true, if_false]; first | exact map1 _ | exact map2 _ _ | exact map3 _ _ _)
    case ha => (simp only [zag, zak, prepV, prepC, idx, hpL', lookR, zaa, if_true, if_false]; rfl)
    case hs => rfl
    case hn => decide
    case h => (first | exact n1 .. | exact n2 ..)
    case hf => (simp only [zad, zaf, false_implies, implies_true, and_true, true_and, flat_cons, flat_nil, flat_ints, flat_bools, flat_app, Cs_flat, zaR, and_self, eq_self_iff_true, zau])
    case hl => (simp only [zaC, zaE]; decide))
 | ((first | refine s1_id ?_ | refine swp_id ?_ | refine sops_id ?_ | refine s2_id ?_); simp only [lendD, dice, decide_eq_false c0, g1, zba, go_sem, zaa, zah, zai, zaj, zal, zae, ↓reduceIte, reduceCtorEq, zab, zac, zam, zan, zao, zaK, zaN, zay, zaO, renO, bk, back, outUpsFrom, Ints_ren])
 | (intros; omega)
 | (intros; (try simp only [zat, zav, zas, zar, zap, zaq, decide_eq_true_eq, decide_eq_false_iff_not] at *); omega))
    (refine fs_flat [(0, dice L (nxA L j2 l.length))] (by simp) (by simp only [zag, zak]; decide) (by simp only [go_sem, resV, resS, zaK, zaN, zay, zbb, zaT, idx, renO, zaO, evS, slot, lookR, zaa, ↓reduceIte, reduceCtorEq, if_true, if_false, zaH, zaI, zag, zak, sLoad, readAt, readNeed, Ints_ren, Ints_length, Ints_getD, and_true, true_and, zaA, zaB]; try decide) ?_ (by simp only [zad, zaf, false_implies, implies_true, and_true, zaT, lookR, zaa, if_true, if_false, ↓reduceIte, dice] <;> (repeat' apply zaw) <;> (first | rfl | trivial)) (by simp only [zad, zaf, false_implies, implies_true, and_true, true_and, flat_cons, flat_nil, flat_ints, flat_bools, flat_app, zaR, and_self, eq_self_iff_true, zau, dice]) ?_ <;> (try simp only [go_sem, resV, resS, zaK, zaN, zay, zbb, zaT, idx, renO, zaO, evS, slot, lookR, zaa, ↓reduceIte, reduceCtorEq, if_true, if_false, zaH, zaI, zag, zak, sLoad, readAt, readNeed, Ints_ren, Ints_length, Ints_getD, and_true, true_and, zaA, zaB]) <;> (try rfl))
def dsL (l : List Int) : Nat → List Int → Nat → List Int × Nat
  | 0, acc, j => (acc, j)
  | n + 1, acc, j => dsL l n (acc ++ [nxV l j 12 - 2]) (nxA l j 12)
theorem dsL_len (l : List Int) : ∀ n acc j, (dsL l n acc j).1.length = acc.length + n
  | 0, acc, j => rfl
  | n + 1, acc, j => by rw [dsL, dsL_len l n]; simp; omega
def dsV (l : List Int) (j : Nat) : List Int × Nat := dsL l (nxV l j 6).toNat [] (nxA l j 6)
theorem dsV_len (l : List Int) (j : Nat) : (dsV l j).1.length ≤ 5 := by
  have := nx_rng l j 6 (by decide)
  unfold dsV
  rw [dsL_len]; simp only [zaE]; omega
set_option maxHeartbeats 8000000 in
theorem dsome_spec (l : List Int) (hl6 : l.length ≤ 600) (hl : ∀ x ∈ l, -9223372036854775808 ≤ x ∧ x ≤ 9223372036854775807) (i : Nat) :
    FnSpec Tryz.prog 24 [dp] [dice l i] (gi (dsV l i).1 none) [some (dice l (dsV l i).2)] := by
  have hk := nx_rng l i 6 (by decide)
  have nk := next_spec l i 6 hl6 hl (by decide)
  have hle := dsV_len l i
  unfold dsV at hle ⊢
  obtain ⟨K, hK⟩ : ∃ K : Nat, nxV l i 6 = K := ⟨(nxV l i 6).toNat, by omega⟩
  rw [hK] at nk hk
  rw [hK, zba] at hle ⊢
  obtain ⟨T, hT⟩ : ∃ T, dsL l K [] (nxA l i 6) = T := ⟨_, rfl⟩
  rw [hT] at hle ⊢
  obtain ⟨el, j⟩ := T
  simp only at hle ⊢
  generalize nxA l i 6 = j0 at *
  refine fnspec_of mixed TT_ok TT_cl ⟨fun _ => false, lendN, 1, fun _ => false, fun _ => false⟩ Tryz.func24 rfl (by kernel_rfl) rfl 18 rfl [.tmp 2] rfl ?_
  simp only [go_sem, zaa, zah, zai, zaj, zal, zae, ↓reduceIte, reduceCtorEq, zab, zac, zam, zan, zao, lendN]
  repeat' (first
 | (apply cl_lend
    case hr => (simp only [zag, zak, hpL', lookR, zaa, if_true, if_false]; first | exact map1 _ | exact map2 _ _ | exact map3 _ _ _)
    case ha => (simp only [zag, zak, prepV, prepC, idx, hpL', lookR, zaa, if_true, if_false]; rfl)
    case hs => rfl
    case hn => decide
    case h => (first | exact nk ..)
    case hf => (simp only [zad, zaf, false_implies, implies_true, and_true, true_and, flat_cons, flat_nil, flat_ints, flat_bools, flat_app, Cs_flat, zaR, and_self, eq_self_iff_true, zau])
    case hl => (simp only [zaC, zaE]; decide))
 | ((first | refine s1_id ?_ | refine swp_id ?_ | refine sops_id ?_ | refine s2_id ?_); simp only [lendN, dice, go_sem, zaa, zah, zai, zaj, zal, zae, ↓reduceIte, reduceCtorEq, zab, zac, zam, zan, zao, zaK, zaN, zay, zaO, renO, bk, back, outUpsFrom, Ints_ren])
 | (intros; (try simp only [zat, zav, zas, zar, zap, zaq, decide_eq_true_eq, decide_eq_false_iff_not] at *); omega))
  refine w_loop (ι := Nat × List Int × Nat) (fun s => ⟨[(0, dp), (3, .one (.osl 1 0 s.2.1.length none)), (4, i1 s.1)], [(0, some (dice l s.2.2)), (1, some ⟨Ints s.2.1, 1⟩)], 2⟩) (fun s => s.1 ≤ 5 ∧ s.2.1.length + s.1 ≤ 5 ∧ dsL l s.1 s.2.1 s.2.2 = (el, j)) (fun s => s.1) (K, [], j0) ?_ ⟨by show K ≤ 5; omega, by show 0 + K ≤ 5; omega, hT⟩ ?_
  · (refine Imp.trans (imp_nilA _ _ 3 1 99 (by simp only []; omega) rfl) ?_)
    (refine imp_ren _ _ _ [(0, 0, dice l j0), (1, 99, ⟨[], 1⟩)] (by simp) (by simp) (by simp) (zaz rfl) ?_ rfl (by simp only [zad, zaf, false_implies, implies_true, and_true, zaT, lookR, zaa, if_true, if_false, ↓reduceIte, dice] <;> (repeat' apply zaw) <;> (first | rfl | trivial)) (by simp only [zad, zaf, false_implies, implies_true, and_true, true_and, flat_cons, flat_nil, flat_ints, flat_bools, flat_app, zaR, and_self, eq_self_iff_true, zau, dice]); simp only [zag, zak, zad, zaf, false_implies, implies_true, and_true, lk, slot, zaK, zay, toN, zaa, if_true, if_false, ↓reduceIte, reduceCtorEq])
    all_goals ((repeat' apply zaw) <;> (first | rfl | trivial))
  clear hT hk nk
  rintro ⟨n, acc, i3⟩ ⟨hn, ha, hL⟩
  simp only at hn ha hL ⊢
  rcases Nat.eq_zero_or_pos n with h0 | h0
  · subst h0
    have hlt : ¬ (0 : Int) < ((0 : Nat) : Int) := by omega
    have hL' : (acc, i3) = (el, j) := hL
    obtain ⟨rfl, rfl⟩ := Prod.mk.inj hL'
    simp only [go_sem, zaa, zah, zai, zaj, zal, zae, ↓reduceIte, reduceCtorEq, zab, zac, zam, zan, zao, decide_eq_false hlt, lendN]
    repeat' (first
 | (intros; (try simp only [zat, zav, zas, zar, zap, zaq, decide_eq_true_eq, decide_eq_false_iff_not] at *); omega))
    (refine fs_frz 1 ⟨Ints acc, 1⟩ (by simp only [zaT, lookR, zaa, if_true, if_false, ↓reduceIte]) (by first | exact Ints_isG _ | exact Bools_isG _ | exact Cs_isG _ | (simp [zbe]; done)) ?_; simp only [frzTm, SV.frz, zbi, zbd, frzHp, frzO, Ints_frz, Bools_frz, zag, zak, zaa, if_true, if_false, ↓reduceIte])
    (refine fs_flat [(0, dice l i3)] (by simp) (by simp only [zag, zak]; decide) (by simp only [go_sem, resV, resS, zaK, zaN, zay, zbb, zaT, idx, renO, zaO, evS, slot, lookR, zaa, ↓reduceIte, reduceCtorEq, if_true, if_false, zaH, zaI, zag, zak, sLoad, readAt, readNeed, Ints_ren, Ints_length, Ints_getD, and_true, true_and, zaA, zaB]; try decide) ?_ (by simp only [zad, zaf, false_implies, implies_true, and_true, zaT, lookR, zaa, if_true, if_false, ↓reduceIte, dice] <;> (repeat' apply zaw) <;> (first | rfl | trivial)) (by simp only [zad, zaf, false_implies, implies_true, and_true, true_and, flat_cons, flat_nil, flat_ints, flat_bools, flat_app, zaR, and_self, eq_self_iff_true, zau, dice]) ?_ <;> (try simp only [go_sem, resV, resS, zaK, zaN, zay, zbb, zaT, idx, renO, zaO, evS, slot, lookR, zaa, ↓reduceIte, reduceCtorEq, if_true, if_false, zaH, zaI, zag, zak, sLoad, readAt, readNeed, Ints_ren, Ints_length, Ints_getD, and_true, true_and, zaA, zaB]) <;> (try rfl))
  obtain ⟨m, rfl⟩ : ∃ m', n = m' + 1 := ⟨n - 1, by omega⟩
  have hlt : (0 : Int) < ((m + 1 : Nat) : Int) := by omega
  have hmm : ((m + 1 : Nat) : Int) - 1 = (m : Int) := by omega
  have h12 := nx_rng l i3 12 (by decide)
  have n12 := next_spec l i3 12 hl6 hl (by decide)
  replace hL : dsL l m (acc ++ [nxV l i3 12 - 2]) (nxA l i3 12) = (el, j) := hL
  generalize nxV l i3 12 = v at *
  generalize nxA l i3 12 = j3 at *
  have hla : (acc ++ [v - 2]).length = acc.length + 1 := by simp
  have htk : List.take acc.length (Ints acc) = Ints acc := zaY (by rw [Ints_length]; exact Nat.le_refl _)
  have hpp : Ints acc ++ [int (v - 2)] = Ints (acc ++ [v - 2]) := by simp [Ints]
  simp only [go_sem, zaa, zah, zai, zaj, zal, zae, ↓reduceIte, reduceCtorEq, zab, zac, zam, zan, zao, decide_eq_true hlt, lendN]
  repeat' (first
 | with_reducible refine zaw ?_ ?_
 | (apply cl_lend
    case hr => (simp only [zag, zak, hpL', lookR, zaa, if_true, if_false]; first | exact map1 _ | exact map2 _ _ | exact map3 _ _ _)
    case ha => (simp only [zag, zak, prepV, prepC, idx, hpL', lookR, zaa, if_true, if_false]; rfl)
    case hs => rfl
    case hn => decide
    case h => (first | exact n12 ..)
    case hf => (simp only [zad, zaf, false_implies, implies_true, and_true, true_and, flat_cons, flat_nil, flat_ints, flat_bools, flat_app, Cs_flat, zaR, and_self, eq_self_iff_true, zau])
    case hl => (simp only [zaC, zaE]; decide))
 | ((first | refine s1_id ?_ | refine swp_id ?_ | refine sops_id ?_ | refine s2_id ?_); simp only [decide_eq_true hlt, lendN, dice, htk, hpp, zaJ, zaL, zau, zaM, zaP, zaF, zaG, zaD, zaQ, zaS, zaC, zaE, go_sem, zaa, zah, zai, zaj, zal, zae, ↓reduceIte, reduceCtorEq, zab, zac, zam, zan, zao, zaK, zaN, zay, zaO, renO, bk, back, outUpsFrom, Ints_ren])
 | (intros; omega)
 | (intros; (try simp only [zat, zav, zas, zar, zap, zaq, decide_eq_true_eq, decide_eq_false_iff_not] at *); omega))
  refine le_mk (m, acc ++ [v - 2], j3) ?_ ⟨by show m ≤ 5; omega, by show (acc ++ [v - 2]).length + m ≤ 5; rw [hla]; omega, hL⟩ (by show m < m + 1; omega)
  simp only [hla]
  (refine imp_ren _ _ _ [(0, 0, dice l j3), (1, 9, ⟨Ints (acc ++ [v - 2]), 1⟩)] (by simp) (by simp) (by simp) (zaz rfl) ?_ rfl (by simp only [zad, zaf, false_implies, implies_true, and_true, zaT, lookR, zaa, if_true, if_false, ↓reduceIte, dice] <;> (repeat' apply zaw) <;> (first | rfl | trivial)) (by simp only [zad, zaf, false_implies, implies_true, and_true, true_and, flat_cons, flat_nil, flat_ints, flat_bools, flat_app, zaR, and_self, eq_self_iff_true, zau, dice]); simp only [zag, zak, zad, zaf, false_implies, implies_true, and_true, lk, slot, zaK, zay, toN, zaa, if_true, if_false, ↓reduceIte, reduceCtorEq])
  all_goals ((repeat' apply zaw) <;> (first | rfl | trivial | (simp only [hmm]; done) | (simp only [hmm]; rfl) | (simp only [hmm]; trivial)))
end Go.Proofs.YtcnilpdlcmpbbaaGreat
-- NEWGO
-- PRUNE: cl_lendx cl_use cl_lend
-- ISG: Cs_isG
-- FLAT: Cs_flat
namespace Go.Proofs.YtcnilpdlcmpbbaaGreat
set_option linter.unusedVariables false
set_option linter.unusedSimpArgs false
open Go.Proofs.YtcnilpdlcmpbbaaGreat.Sh
set_option maxRecDepth 20000
def rfF (due : List Int) (x : Pl) : Pl := if (prefill x).2 = 0 ∧ x.g ∈ due then (prefill x).1 else x
def thRf (l : List Nd) (n : Int) (L : List Pl) (due : List Int) : List Pl := if thC l n L = true then L.map (rfF due) else []
set_option maxHeartbeats 16000000 in
theorem rthrefill_spec (l : List Nd) (n : Int) (L : List Pl) (k : Option Nat) (due : List Int) (kd : Option Nat) (hl : l.length ≤ 1000000) (hL : L.length ≤ 1000000) (hd : due.length ≤ 1000000) (hnm : NmR l) (hsm : ∀ x ∈ L, SmP x) (hwk : ∀ x ∈ L, Wk x) (hcl : ∀ x ∈ L, x.c.length ≤ 1000) : FnSpec Tryz.prog 25 [trV l none n, gr L k, gi due kd] [] (gr (thRf l n L due) none) [] := by
  have h1 := rthck_spec l n L k hl hL hnm hsm
  have h3 := rpools_own L k hL hcl
  unfold thRf
  cases hc : thC l n L with
  | false =>
    rw [hc] at h1
    rw [if_neg zaW]
    refine fnspec_of mixed TT_ok TT_cl ⟨fun _ => false, fun _ => [], 0, fun _ => false, fun _ => false⟩ Tryz.func25 rfl (by kernel_rfl) rfl 47 rfl [.tmp 6] rfl ?_
    simp only [go_sem, zaa, zah, zai, zaj, zal, zae, ↓reduceIte, reduceCtorEq, zab, zac, zam, zan, zao]
    repeat' (first
 | (apply cl_plain
    case hs => rfl
    case ha => (simp only [zag, zak, prepV, prepC, idx, hpL', lookR, zaa, if_true, if_false]; rfl)
    case h => (first | exact h1 ..))
 | ((first | refine s1_id ?_ | refine swp_id ?_ | refine sops_id ?_ | refine s2_id ?_); simp only [go_sem, zaa, zah, zai, zaj, zal, zae, ↓reduceIte, reduceCtorEq, zab, zac, zam, zan, zao, zaK, zaN, zay, zaO, renO, bk, back, outUpsFrom, Ints_ren])
 | (intros; (try simp only [zat, zav, zas, zar, zap, zaq, decide_eq_true_eq, decide_eq_false_iff_not] at *); omega))
    repeat' (first
 | exact fs_w trivial (svw_of cw_gnil)
 | fail)
  | true =>
  rw [hc] at h1
  rw [if_pos rfl]
  refine fnspec_of mixed TT_ok TT_cl ⟨fun _ => false, fun _ => [], 0, fun _ => false, fun _ => false⟩ Tryz.func25 rfl (by kernel_rfl) rfl 47 rfl [.tmp 6] rfl ?_
  simp only [go_sem, zaa, zah, zai, zaj, zal, zae, ↓reduceIte, reduceCtorEq, zab, zac, zam, zan, zao]
  repeat' (first
 | (apply cl_plain
    case hs => rfl
    case ha => (simp only [zag, zak, prepV, prepC, idx, hpL', lookR, zaa, if_true, if_false]; rfl)
    case h => (first | exact h1 .. | exact h3 ..))
 | ((first | refine s1_id ?_ | refine swp_id ?_ | refine sops_id ?_ | refine s2_id ?_); simp only [go_sem, zaa, zah, zai, zaj, zal, zae, ↓reduceIte, reduceCtorEq, zab, zac, zam, zan, zao, zaK, zaN, zay, zaO, renO, bk, back, outUpsFrom, Ints_ren])
 | (intros; (try simp only [zat, zav, zas, zar, zap, zaq, decide_eq_true_eq, decide_eq_false_iff_not] at *); omega))
  refine w_loop (ι := Nat) (fun m => ⟨[(2, gi due kd), (7, .one (.osl 0 0 L.length none)), (8, i1 m)], [(0, some ⟨Cs (mpN (rfF due) L m), 10⟩)], 1⟩) (fun m => m ≤ L.length) (fun m => L.length - m) 0 ?_ (zaV _) ?_
  · simp only [mpN_0]
    (refine imp_ren _ _ _ [(0, 7, ⟨Cs L, 10⟩)] (by simp) (by simp) (by simp) (zaz rfl) ?_ rfl (by simp only [zad, zaf, false_implies, implies_true, and_true, zaT, lookR, zaa, if_true, if_false, ↓reduceIte, Cs_flat] <;> (repeat' apply zaw) <;> (first | rfl | trivial)) (by simp only [zad, zaf, false_implies, implies_true, and_true, true_and, flat_cons, flat_nil, flat_ints, flat_bools, flat_app, zaR, and_self, eq_self_iff_true, zau, Cs_flat]); simp only [zag, zak, zad, zaf, false_implies, implies_true, and_true, lk, slot, zaK, zay, toN, zaa, if_true, if_false, ↓reduceIte, reduceCtorEq])
    all_goals ((repeat' apply zaw) <;> (first | rfl | trivial))
  clear h1 h3
  intro m hm
  simp only at hm ⊢
  rcases zaX m L.length with hlt | hge
  case inr =>
    have c : ¬ (m : Int) < (L.length : Int) := by omega
    rw [mpN_all (rfF due) L m hge]
    have hRl : (L.map (rfF due)).length = L.length := zaU _
    simp only [go_sem, zaa, zah, zai, zaj, zal, zae, ↓reduceIte, reduceCtorEq, zab, zac, zam, zan, zao, decide_eq_false c]
    repeat' (first
 | (intros; (try simp only [zat, zav, zas, zar, zap, zaq, decide_eq_true_eq, decide_eq_false_iff_not] at *); omega))
    (refine fs_frz 0 ⟨Cs (L.map (rfF due)), 10⟩ (by simp only [zaT, lookR, zaa, if_true, if_false, ↓reduceIte]) (by first | exact Ints_isG _ | exact Bools_isG _ | exact Cs_isG _ | (simp [zbe]; done)) ?_; simp only [frzTm, SV.frz, zbi, zbd, frzHp, frzO, Ints_frz, Bools_frz, zag, zak, zaa, if_true, if_false, ↓reduceIte])
    apply fs_nil <;> (try simp only [go_sem, resV, resS, zaK, zaN, zay, zbb, zaT, idx, renO, zaO, evS, slot, lookR, zaa, ↓reduceIte, reduceCtorEq, if_true, if_false, zaH, zaI, zag, zak, sLoad, readAt, readNeed, Ints_ren, Ints_length, Ints_getD, and_true, true_and, zaA, zaB]) <;> (try rfl)
    show SV.one (.gsl (Cs (L.map (rfF due))) 0 L.length none) = SV.one (.gsl (Cs (L.map (rfF due))) 0 (L.map (rfF due)).length none)
    rw [hRl]
  have c : (m : Int) < (L.length : Int) := by omega
  have hmem := getD_mem L m zpl hlt
  have hAt := mpN_at (rfF due) L m hlt
  have hCl := mpN_len (rfF due) L m
  have hT := pl_td (mpN (rfF due) L m) m (by omega)
  have q0 := pl_f0 (mpN (rfF due) L m) m (by omega) (.sc (.int .i64 0))
  have hSt := pl_set (mpN (rfF due) L m) m (rfF due (gP L m)) (by omega)
  rw [mpN_set (rfF due) L m hlt] at hSt
  have hpc := pl_len (mpN (rfF due) L m)
  rw [hAt] at hT q0
  rw [hCl] at hpc
  have h6 := rrefill_spec (gP L m) none (hwk _ hmem)
  have hha := has_spec due kd (gP L m).g hd
  have hfe : rfF due (gP L m) = if (prefill (gP L m)).2 = 0 ∧ (gP L m).g ∈ due then (prefill (gP L m)).1 else gP L m := rfl
  have hsk := mpN_skip (rfF due) L m hlt
  change putAt (Cs (mpN (rfF due) L m)) (m * 10) _ = Cs (mpN (rfF due) L (m + 1)) at hSt
  clear hAt
  by_cases hin : (prefill (gP L m)).2 = 0 ∧ (gP L m).g ∈ due
  · rw [if_pos hin] at hfe
    rw [hfe] at hSt
    obtain ⟨k0, k1⟩ := hin
    rw [decide_eq_true k1] at hha
    clear hsk hfe
    generalize mpN (rfF due) L m = C at *
    generalize prefill (gP L m) = r at *
    obtain ⟨⟨s0, s1, s2, s3, s4, s5, s6, s7, s8, s9⟩, r2⟩ := r
    generalize gP L m = x at *
    obtain ⟨a, b, cc, d, e, ff, q1, q2, q3, q4⟩ := x
    simp only [plc, plt, pre] at hT h6 hSt
    simp only at q0 hha k0
    simp only [go_sem, zaa, zah, zai, zaj, zal, zae, ↓reduceIte, reduceCtorEq, zab, zac, zam, zan, zao, decide_eq_true c, hT, q0, hSt, decide_eq_true k0]
    repeat' (first
 | with_reducible refine zaw ?_ ?_
 | (apply cg_tp
    case hl => rfl
    case ha => (simp only [zag, zak, prepV, prepC, idx, hpL', lookR, zaa, if_true, if_false]; rfl)
    case hs => rfl
    case h => (first | exact h6 .. | exact hha ..))
 | (apply cl_plain
    case hs => rfl
    case ha => (simp only [zag, zak, prepV, prepC, idx, hpL', lookR, zaa, if_true, if_false]; rfl)
    case h => (first | exact h6 .. | exact hha ..))
 | ((first | refine s1_id ?_ | refine swp_id ?_ | refine sops_id ?_ | refine s2_id ?_); simp only [decide_eq_true c, hT, q0, hSt, decide_eq_true k0, zaJ, zaL, zau, zaM, zaP, zaF, zaG, zaD, zaQ, zaS, zaC, zaE, go_sem, zaa, zah, zai, zaj, zal, zae, ↓reduceIte, reduceCtorEq, zab, zac, zam, zan, zao, zaK, zaN, zay, zaO, renO, bk, back, outUpsFrom, Ints_ren])
 | (intros; omega)
 | (intros; (try simp only [zat, zav, zas, zar, zap, zaq, decide_eq_true_eq, decide_eq_false_iff_not] at *); omega))
    refine le_mk (m + 1) ?_ hlt (by omega)
    (refine imp_ren _ _ _ [(0, 0, ⟨Cs (mpN (rfF due) L (m + 1)), 10⟩)] (by simp) (by simp) (by simp) (zaz rfl) ?_ rfl (by simp only [zad, zaf, false_implies, implies_true, and_true, zaT, lookR, zaa, if_true, if_false, ↓reduceIte, Cs_flat] <;> (repeat' apply zaw) <;> (first | rfl | trivial)) (by simp only [zad, zaf, false_implies, implies_true, and_true, true_and, flat_cons, flat_nil, flat_ints, flat_bools, flat_app, zaR, and_self, eq_self_iff_true, zau, Cs_flat]); simp only [zag, zak, zad, zaf, false_implies, implies_true, and_true, lk, slot, zaK, zay, toN, zaa, if_true, if_false, ↓reduceIte, reduceCtorEq])
    all_goals ((repeat' apply zaw) <;> (first | rfl | trivial | (simp only [zax]; done) | (simp only [zax]; rfl) | (simp only [zax]; trivial)))
  · rw [if_neg hin] at hfe
    have hsk := hsk hfe
    clear hfe hSt
    rw [hsk] at hT q0 hpc
    simp only [hsk]
    generalize prefill (gP L m) = r at *
    obtain ⟨⟨s0, s1, s2, s3, s4, s5, s6, s7, s8, s9⟩, r2⟩ := r
    generalize gP L m = x at *
    obtain ⟨a, b, cc, d, e, ff, q1, q2, q3, q4⟩ := x
    simp only [plc, plt, pre] at hT h6
    simp only at q0 hha hin
    by_cases k0 : r2 = 0
    · have k1 : ¬ a ∈ due := fun q => hin ⟨k0, q⟩
      rw [decide_eq_false k1] at hha
      simp only [go_sem, zaa, zah, zai, zaj, zal, zae, ↓reduceIte, reduceCtorEq, zab, zac, zam, zan, zao, decide_eq_true c, q0, hT, decide_eq_true k0]
      repeat' (first
 | with_reducible refine zaw ?_ ?_
 | (apply cg_tp
    case hl => rfl
    case ha => (simp only [zag, zak, prepV, prepC, idx, hpL', lookR, zaa, if_true, if_false]; rfl)
    case hs => rfl
    case h => (first | exact h6 .. | exact hha ..))
 | (apply cl_plain
    case hs => rfl
    case ha => (simp only [zag, zak, prepV, prepC, idx, hpL', lookR, zaa, if_true, if_false]; rfl)
    case h => (first | exact h6 .. | exact hha ..))
 | ((first | refine s1_id ?_ | refine swp_id ?_ | refine sops_id ?_ | refine s2_id ?_); simp only [decide_eq_true c, q0, hT, decide_eq_true k0, zaJ, zaL, zau, zaM, zaP, zaF, zaG, zaD, zaQ, zaS, zaC, zaE, go_sem, zaa, zah, zai, zaj, zal, zae, ↓reduceIte, reduceCtorEq, zab, zac, zam, zan, zao, zaK, zaN, zay, zaO, renO, bk, back, outUpsFrom, Ints_ren])
 | (intros; omega)
 | (intros; (try simp only [zat, zav, zas, zar, zap, zaq, decide_eq_true_eq, decide_eq_false_iff_not] at *); omega))
      refine le_mk (m + 1) ?_ hlt (by omega)
      (refine imp_ren _ _ _ [(0, 0, ⟨Cs (mpN (rfF due) L (m + 1)), 10⟩)] (by simp) (by simp) (by simp) (zaz rfl) ?_ rfl (by simp only [zad, zaf, false_implies, implies_true, and_true, zaT, lookR, zaa, if_true, if_false, ↓reduceIte, Cs_flat] <;> (repeat' apply zaw) <;> (first | rfl | trivial)) (by simp only [zad, zaf, false_implies, implies_true, and_true, true_and, flat_cons, flat_nil, flat_ints, flat_bools, flat_app, zaR, and_self, eq_self_iff_true, zau, Cs_flat]); simp only [zag, zak, zad, zaf, false_implies, implies_true, and_true, lk, slot, zaK, zay, toN, zaa, if_true, if_false, ↓reduceIte, reduceCtorEq])
      all_goals ((repeat' apply zaw) <;> (first | rfl | trivial | (simp only [zax]; done) | (simp only [zax]; rfl) | (simp only [zax]; trivial)))
    · simp only [go_sem, zaa, zah, zai, zaj, zal, zae, ↓reduceIte, reduceCtorEq, zab, zac, zam, zan, zao, decide_eq_true c, q0, hT, decide_eq_false k0]
      repeat' (first
 | with_reducible refine zaw ?_ ?_
 | (apply cl_plain
    case hs => rfl
    case ha => (simp only [zag, zak, prepV, prepC, idx, hpL', lookR, zaa, if_true, if_false]; rfl)
    case h => (first | exact h6 .. | exact hha ..))
 | ((first | refine s1_id ?_ | refine swp_id ?_ | refine sops_id ?_ | refine s2_id ?_); simp only [decide_eq_true c, q0, hT, decide_eq_false k0, zaJ, zaL, zau, zaM, zaP, zaF, zaG, zaD, zaQ, zaS, zaC, zaE, go_sem, zaa, zah, zai, zaj, zal, zae, ↓reduceIte, reduceCtorEq, zab, zac, zam, zan, zao, zaK, zaN, zay, zaO, renO, bk, back, outUpsFrom, Ints_ren])
 | (intros; omega)
 | (intros; (try simp only [zat, zav, zas, zar, zap, zaq, decide_eq_true_eq, decide_eq_false_iff_not] at *); omega))
      refine le_mk (m + 1) ?_ hlt (by omega)
      (refine imp_ren _ _ _ [(0, 0, ⟨Cs (mpN (rfF due) L (m + 1)), 10⟩)] (by simp) (by simp) (by simp) (zaz rfl) ?_ rfl (by simp only [zad, zaf, false_implies, implies_true, and_true, zaT, lookR, zaa, if_true, if_false, ↓reduceIte, Cs_flat] <;> (repeat' apply zaw) <;> (first | rfl | trivial)) (by simp only [zad, zaf, false_implies, implies_true, and_true, true_and, flat_cons, flat_nil, flat_ints, flat_bools, flat_app, zaR, and_self, eq_self_iff_true, zau, Cs_flat]); simp only [zag, zak, zad, zaf, false_implies, implies_true, and_true, lk, slot, zaK, zay, toN, zaa, if_true, if_false, ↓reduceIte, reduceCtorEq])
      all_goals ((repeat' apply zaw) <;> (first | rfl | trivial | (simp only [zax]; done) | (simp only [zax]; rfl) | (simp only [zax]; trivial)))
def nwE (l : List Nd) (q b : List Int) (s c : Int) (i : Nat) : Pl × Int := pnew (gN l i).i (q.getD i 0) (b.getD i 0) s c
def nwN (l : List Nd) (q b : List Int) (s c : Int) (m : Nat) : List Pl := (List.range m).map fun i => (nwE l q b s c i).1
def thNw (l : List Nd) (n : Int) (q b : List Int) (s c : Int) : List Pl × Int :=
  if (chkT l n && (decide (q.length = l.length) && decide (b.length = l.length))) = true then
    (if allN l.length (fun i => decide ((nwE l q b s c i).2 = 0)) = true then (nwN l q b s c l.length, 0) else ([], 3)) else ([], 1)
theorem nwN_len (l : List Nd) (q b : List Int) (s c : Int) (m : Nat) : (nwN l q b s c m).length = m := by simp [nwN]
theorem nwN_suc (l : List Nd) (q b : List Int) (s c : Int) (m : Nat) : nwN l q b s c (m + 1) = nwN l q b s c m ++ [(nwE l q b s c m).1] := by simp [nwN, List.range_succ]
theorem pnew_e (g q b s n : Int) : (pnew g q b s n).2 = 0 ∨ (pnew g q b s n).2 = 3 := by
  unfold pnew
  repeat' split
  all_goals simp
set_option maxHeartbeats 16000000 in
theorem rthnew_spec (l : List Nd) (n : Int) (q b : List Int) (s cp : Int) (kq kb : Option Nat) (hl : l.length ≤ 1000000) (hq : q.length ≤ 9223372036854775807) (hb : b.length ≤ 9223372036854775807) (hnm : NmR l) (hbr : ∀ x ∈ b, -9223372036854775808 ≤ x ∧ x ≤ 9223372036854775807) : FnSpec Tryz.prog 39 [trV l none n, gi q kq, gi b kb, i1 s, i1 cp] [] (.tup [gr (thNw l n q b s cp).1 none, i1 (thNw l n q b s cp).2]) [] := by
  have h1 := trcheck_spec l none n hl hnm
  have hnl := nd_len l
  unfold thNw
  cases hk : chkT l n with
  | false =>
    rw [hk] at h1
    rw [Bool.false_and, if_neg zaW]
    refine fnspec_of mixed TT_ok TT_cl ⟨fun _ => false, fun _ => [], 0, fun _ => false, fun _ => false⟩ Tryz.func39 rfl (by kernel_rfl) rfl 70 rfl [.tmp 10, .tmp 11] rfl ?_
    simp only [go_sem, zaa, zah, zai, zaj, zal, zae, ↓reduceIte, reduceCtorEq, zab, zac, zam, zan, zao]
    repeat' (first
 | (apply cl_plain
    case hs => rfl
    case ha => (simp only [zag, zak, prepV, prepC, idx, hpL', lookR, zaa, if_true, if_false]; rfl)
    case h => (first | exact h1 ..))
 | ((first | refine s1_id ?_ | refine swp_id ?_ | refine sops_id ?_ | refine s2_id ?_); simp only [go_sem, zaa, zah, zai, zaj, zal, zae, ↓reduceIte, reduceCtorEq, zab, zac, zam, zan, zao, zaK, zaN, zay, zaO, renO, bk, back, outUpsFrom, Ints_ren])
 | (intros; (try simp only [zat, zav, zas, zar, zap, zaq, decide_eq_true_eq, decide_eq_false_iff_not] at *); omega))
    repeat' (first
 | exact fs_w trivial (svw_of (zaw cw_gnil (zaw (cw_rfl _) trivial)))
 | fail)
  | true =>
  rw [hk] at h1
  rw [Bool.true_and]
  by_cases c1 : q.length = l.length
  case neg =>
    have c1' : ¬ (q.length : Int) = (l.length : Int) := by omega
    rw [decide_eq_false c1, Bool.false_and, if_neg zaW]
    refine fnspec_of mixed TT_ok TT_cl ⟨fun _ => false, fun _ => [], 0, fun _ => false, fun _ => false⟩ Tryz.func39 rfl (by kernel_rfl) rfl 70 rfl [.tmp 10, .tmp 11] rfl ?_
    simp only [go_sem, zaa, zah, zai, zaj, zal, zae, ↓reduceIte, reduceCtorEq, zab, zac, zam, zan, zao, decide_eq_false c1']
    repeat' (first
 | (apply cl_plain
    case hs => rfl
    case ha => (simp only [zag, zak, prepV, prepC, idx, hpL', lookR, zaa, if_true, if_false]; rfl)
    case h => (first | exact h1 ..))
 | ((first | refine s1_id ?_ | refine swp_id ?_ | refine sops_id ?_ | refine s2_id ?_); simp only [decide_eq_false c1', go_sem, zaa, zah, zai, zaj, zal, zae, ↓reduceIte, reduceCtorEq, zab, zac, zam, zan, zao, zaK, zaN, zay, zaO, renO, bk, back, outUpsFrom, Ints_ren])
 | (intros; (try simp only [zat, zav, zas, zar, zap, zaq, decide_eq_true_eq, decide_eq_false_iff_not] at *); omega))
    repeat' (first
 | exact fs_w trivial (svw_of (zaw cw_gnil (zaw (cw_rfl _) trivial)))
 | fail)
  have c1' : (q.length : Int) = (l.length : Int) := by omega
  rw [decide_eq_true c1, Bool.true_and]
  by_cases c2 : b.length = l.length
  case neg =>
    have c2' : ¬ (b.length : Int) = (l.length : Int) := by omega
    rw [decide_eq_false c2, if_neg zaW]
    refine fnspec_of mixed TT_ok TT_cl ⟨fun _ => false, fun _ => [], 0, fun _ => false, fun _ => false⟩ Tryz.func39 rfl (by kernel_rfl) rfl 70 rfl [.tmp 10, .tmp 11] rfl ?_
    simp only [go_sem, zaa, zah, zai, zaj, zal, zae, ↓reduceIte, reduceCtorEq, zab, zac, zam, zan, zao, decide_eq_true c1', decide_eq_false c2']
    repeat' (first
 | (apply cl_plain
    case hs => rfl
    case ha => (simp only [zag, zak, prepV, prepC, idx, hpL', lookR, zaa, if_true, if_false]; rfl)
    case h => (first | exact h1 ..))
 | ((first | refine s1_id ?_ | refine swp_id ?_ | refine sops_id ?_ | refine s2_id ?_); simp only [decide_eq_true c1', decide_eq_false c2', go_sem, zaa, zah, zai, zaj, zal, zae, ↓reduceIte, reduceCtorEq, zab, zac, zam, zan, zao, zaK, zaN, zay, zaO, renO, bk, back, outUpsFrom, Ints_ren])
 | (intros; (try simp only [zat, zav, zas, zar, zap, zaq, decide_eq_true_eq, decide_eq_false_iff_not] at *); omega))
    repeat' (first
 | exact fs_w trivial (svw_of (zaw cw_gnil (zaw (cw_rfl _) trivial)))
 | fail)
  have c2' : (b.length : Int) = (l.length : Int) := by omega
  rw [decide_eq_true c2, if_pos rfl]
  refine fnspec_of mixed TT_ok TT_cl ⟨fun _ => false, fun _ => [], 0, fun _ => false, fun _ => false⟩ Tryz.func39 rfl (by kernel_rfl) rfl 70 rfl [.tmp 10, .tmp 11] rfl ?_
  simp only [go_sem, zaa, zah, zai, zaj, zal, zae, ↓reduceIte, reduceCtorEq, zab, zac, zam, zan, zao, decide_eq_true c1', decide_eq_true c2']
  repeat' (first
 | (apply cl_plain
    case hs => rfl
    case ha => (simp only [zag, zak, prepV, prepC, idx, hpL', lookR, zaa, if_true, if_false]; rfl)
    case h => (first | exact h1 ..))
 | ((first | refine s1_id ?_ | refine swp_id ?_ | refine sops_id ?_ | refine s2_id ?_); simp only [decide_eq_true c1', decide_eq_true c2', go_sem, zaa, zah, zai, zaj, zal, zae, ↓reduceIte, reduceCtorEq, zab, zac, zam, zan, zao, zaK, zaN, zay, zaO, renO, bk, back, outUpsFrom, Ints_ren])
 | (intros; (try simp only [zat, zav, zas, zar, zap, zaq, decide_eq_true_eq, decide_eq_false_iff_not] at *); omega))
  refine w_loop (ι := Nat) (fun m => ⟨[(1, gi q kq), (2, gi b kb), (3, i1 s), (4, i1 cp), (5, .one (.optr 0 0)), (12, .one (.osl 1 0 m none)), (13, i1 m)], [(0, some ⟨[.gsl (Cs l) 0 l.length none, int n], 2⟩), (1, some ⟨Cs (nwN l q b s cp m), 10⟩)], 2⟩) (fun m => m ≤ l.length ∧ ∀ i, i < m → (nwE l q b s cp i).2 = 0) (fun m => l.length - m) 0 ?_ ⟨zaV _, fun i hi => absurd hi (Nat.not_lt_zero _)⟩ ?_
  · (refine Imp.trans (imp_nilA _ _ 12 10 99 (by simp only []; omega) rfl) ?_)
    (refine imp_ren _ _ _ [(0, 0, ⟨[.gsl (Cs l) 0 l.length none, int n], 2⟩), (1, 99, ⟨[], 10⟩)] (by simp) (by simp) (by simp) (zaz rfl) ?_ rfl (by simp only [zad, zaf, false_implies, implies_true, and_true, zaT, lookR, zaa, if_true, if_false, ↓reduceIte] <;> (repeat' apply zaw) <;> (first | rfl | trivial)) (by simp only [zad, zaf, false_implies, implies_true, and_true, true_and, flat_cons, flat_nil, flat_ints, flat_bools, flat_app, zaR, and_self, eq_self_iff_true, zau]); simp only [zag, zak, zad, zaf, false_implies, implies_true, and_true, lk, slot, zaK, zay, toN, zaa, if_true, if_false, ↓reduceIte, reduceCtorEq])
    all_goals ((repeat' apply zaw) <;> (first | rfl | trivial))
  clear h1
  rintro m ⟨hm, hI⟩
  simp only at hm hI ⊢
  rcases zaX m l.length with hlt | hge
  case inr =>
    have c : ¬ (m : Int) < (l.length : Int) := by omega
    obtain rfl : m = l.length := by omega
    rw [if_pos ((allN_iff _ _).2 fun i hi => decide_eq_true (hI i hi))]
    have hRl := nwN_len l q b s cp l.length
    generalize nwN l q b s cp l.length = R at *
    simp only [go_sem, zaa, zah, zai, zaj, zal, zae, ↓reduceIte, reduceCtorEq, zab, zac, zam, zan, zao, decide_eq_false c]
    repeat' (first
 | (intros; (try simp only [zat, zav, zas, zar, zap, zaq, decide_eq_true_eq, decide_eq_false_iff_not] at *); omega))
    (refine fs_frz 1 ⟨Cs R, 10⟩ (by simp only [zaT, lookR, zaa, if_true, if_false, ↓reduceIte]) (by first | exact Ints_isG _ | exact Bools_isG _ | exact Cs_isG _ | (simp [zbe]; done)) ?_; simp only [frzTm, SV.frz, zbi, zbd, frzHp, frzO, Ints_frz, Bools_frz, zag, zak, zaa, if_true, if_false, ↓reduceIte])
    apply fs_nil <;> (try simp only [go_sem, resV, resS, zaK, zaN, zay, zbb, zaT, idx, renO, zaO, evS, slot, lookR, zaa, ↓reduceIte, reduceCtorEq, if_true, if_false, zaH, zaI, zag, zak, sLoad, readAt, readNeed, Ints_ren, Ints_length, Ints_getD, and_true, true_and, zaA, zaB]) <;> (try rfl)
    show SV.tup [.one (.gsl (Cs R) 0 l.length none), i1 0] = SV.tup [.one (.gsl (Cs R) 0 R.length none), i1 0]
    rw [hRl]
  have c : (m : Int) < (l.length : Int) := by omega
  obtain ⟨g1, _⟩ := nd_f l m hlt (.sc (.int .i64 0))
  have hbm := hbr _ (getD_mem b m 0 (by omega))
  have h2 := rnew_spec (gN l m).i (q.getD m 0) (b.getD m 0) s cp hbm
  have hee : nwE l q b s cp m = pnew (gN l m).i (q.getD m 0) (b.getD m 0) s cp := rfl
  have he3 := pnew_e (gN l m).i (q.getD m 0) (b.getD m 0) s cp
  have hsu := nwN_suc l q b s cp m
  rw [hee] at hsu
  have hno : (nwE l q b s cp m).2 ≠ 0 → allN l.length (fun i => decide ((nwE l q b s cp i).2 = 0)) = false := fun hf => Bool.eq_false_iff.2 fun h => hf (of_decide_eq_true ((allN_iff _ _).1 h m hlt))
  rw [hee] at hno
  have hcq : (m : Int) < (q.length : Int) := by omega
  have hcb : (m : Int) < (b.length : Int) := by omega
  generalize pnew (gN l m).i (q.getD m 0) (b.getD m 0) s cp = r at *
  obtain ⟨⟨s0, s1, s2, s3, s4, s5, s6, s7, s8, s9⟩, r2⟩ := r
  simp only at he3 hno hsu
  simp only [plc, plt, pre] at h2
  by_cases k0 : r2 = 0
  case neg =>
    obtain rfl : r2 = 3 := by omega
    rw [hno (by omega)]
    simp only [zbg, if_false, go_sem, zaa, zah, zai, zaj, zal, zae, ↓reduceIte, reduceCtorEq, zab, zac, zam, zan, zao, decide_eq_true c, g1]
    repeat' (first
 | with_reducible refine zaw ?_ ?_
 | (unfold OKC; kernel_rfl)
 | (unfold EDG; kernel_rfl)
 | (apply cl_plain
    case hs => rfl
    case ha => (simp only [zag, zak, prepV, prepC, idx, hpL', lookR, zaa, if_true, if_false]; rfl)
    case h => (first | exact h2 ..))
 | ((first | refine s1_id ?_ | refine swp_id ?_ | refine sops_id ?_ | refine s2_id ?_); simp only [decide_eq_true c, g1, zaJ, zaL, zau, zaM, zaP, zaF, zaG, zaD, zaQ, zaS, zaC, zaE, go_sem, zaa, zah, zai, zaj, zal, zae, ↓reduceIte, reduceCtorEq, zab, zac, zam, zan, zao, zaK, zaN, zay, zaO, renO, bk, back, outUpsFrom, Ints_ren])
 | (intros; omega)
 | (intros; (try simp only [zat, zav, zas, zar, zap, zaq, decide_eq_true_eq, decide_eq_false_iff_not] at *); omega))
    repeat' (first
 | exact fs_w trivial (svw_of (zaw cw_gnil (zaw (cw_rfl _) trivial)))
 | fail)
  subst k0
  have hll := nwN_len l q b s cp m
  have htk : List.take (m * 10) (Cs (nwN l q b s cp m)) = Cs (nwN l q b s cp m) := Cs_all _ _ (by rw [hll]; exact Nat.le_refl _)
  have hpp : Cs (nwN l q b s cp m) ++ [int s0, int s1, int s2, int s3, int s4, .gsl (Ints s5) 0 s5.length none, int s6, int s7, int s8, .sc (.bool s9)] = Cs (nwN l q b s cp (m + 1)) := by
    rw [hsu]; exact Cs_snoc _ (⟨s0, s1, s2, s3, s4, s5, s6, s7, s8, s9⟩ : Pl)
  have hpc := pl_len (nwN l q b s cp m)
  rw [hll] at hpc
  generalize nwN l q b s cp m = C at *
  simp only [go_sem, zaa, zah, zai, zaj, zal, zae, ↓reduceIte, reduceCtorEq, zab, zac, zam, zan, zao, decide_eq_true c, g1]
  repeat' (first
 | with_reducible refine zaw ?_ ?_
 | (unfold OKC; kernel_rfl)
 | (unfold EDG; kernel_rfl)
 | (apply cl_plain
    case hs => rfl
    case ha => (simp only [zag, zak, prepV, prepC, idx, hpL', lookR, zaa, if_true, if_false]; rfl)
    case h => (first | exact h2 ..))
 | ((first | refine s1_id ?_ | refine swp_id ?_ | refine sops_id ?_ | refine s2_id ?_); simp only [decide_eq_true c, g1, htk, hpp, zaJ, zaL, zau, zaM, zaP, zaF, zaG, zaD, zaQ, zaS, zaC, zaE, go_sem, zaa, zah, zai, zaj, zal, zae, ↓reduceIte, reduceCtorEq, zab, zac, zam, zan, zao, zaK, zaN, zay, zaO, renO, bk, back, outUpsFrom, Ints_ren])
 | (intros; omega)
 | (intros; (try simp only [zat, zav, zas, zar, zap, zaq, decide_eq_true_eq, decide_eq_false_iff_not] at *); omega))
  refine le_mk (m + 1) ?_ ⟨hlt, fun i hi => by rcases Nat.lt_succ_iff_lt_or_eq.1 hi with h | h; (· exact hI i h); (· rw [h, hee])⟩ (by omega)
  (refine imp_ren _ _ _ [(0, 0, ⟨[.gsl (Cs l) 0 l.length none, int n], 2⟩), (1, 35, ⟨Cs (nwN l q b s cp (m + 1)), 10⟩)] (by simp) (by simp) (by simp) (zaz rfl) ?_ rfl (by simp only [zad, zaf, false_implies, implies_true, and_true, zaT, lookR, zaa, if_true, if_false, ↓reduceIte, Cs_flat] <;> (repeat' apply zaw) <;> (first | rfl | trivial)) (by simp only [zad, zaf, false_implies, implies_true, and_true, true_and, flat_cons, flat_nil, flat_ints, flat_bools, flat_app, zaR, and_self, eq_self_iff_true, zau, Cs_flat]); simp only [zag, zak, zad, zaf, false_implies, implies_true, and_true, lk, slot, zaK, zay, toN, zaa, if_true, if_false, ↓reduceIte, reduceCtorEq])
  all_goals ((repeat' apply zaw) <;> (first | rfl | trivial | (simp only [zax]; done) | (simp only [zax]; rfl) | (simp only [zax]; trivial)))
end Go.Proofs.YtcnilpdlcmpbbaaGreat
-- NEWGO
-- PRUNE: cl_lendx cl_use
-- ISG: Cs_isG
-- FLAT: Cs_flat
namespace Go.Proofs.YtcnilpdlcmpbbaaGreat
set_option linter.unusedVariables false
set_option linter.unusedSimpArgs false
open Go.Proofs.YtcnilpdlcmpbbaaGreat.Sh
set_option maxRecDepth 20000
def nuS (D : List Int) (j : Nat) : (Int × Int) × Nat :=
  if nxV D j 2 = 1 then ((1 + nxV D (nxA D j 2) 6, nxV D (nxA D (nxA D j 2) 6) (1 + nxV D (nxA D j 2) 6 + 1)), nxA D (nxA D (nxA D j 2) 6) (1 + nxV D (nxA D j 2) 6 + 1)) else ((4611686018427387904, 0), nxA D j 2)
def nuL (D : List Int) : Nat → List Int × List Int → Nat → (List Int × List Int) × Nat
  | 0, s, j => (s, j)
  | m + 1, s, j => nuL D m (s.1 ++ [(nuS D j).1.1], s.2 ++ [(nuS D j).1.2]) (nuS D j).2
theorem nuS_ok (D : List Int) (j : Nat) : stl (nuS D j).1.1 (nuS D j).1.2 = true ∧ (1 ≤ (nuS D j).1.1 ∧ (nuS D j).1.1 ≤ 4611686018427387904) ∧ (0 ≤ (nuS D j).1.2 ∧ (nuS D j).1.2 ≤ 6) := by
  have h2 := nx_rng D (nxA D j 2) 6 (by decide)
  have h3 := nx_rng D (nxA D (nxA D j 2) 6) (1 + nxV D (nxA D j 2) 6 + 1) (by omega)
  unfold nuS
  split
  · refine ⟨stl_iff.2 (.inr ?_), ?_, ?_⟩ <;> simp only <;> omega
  · exact ⟨by show stl 4611686018427387904 0 = true; decide, by show (1 : Int) ≤ 4611686018427387904 ∧ (4611686018427387904 : Int) ≤ 4611686018427387904; omega, by show (0 : Int) ≤ 0 ∧ (0 : Int) ≤ 6; omega⟩
structure NuI (s : List Int × List Int) (m : Nat) : Prop where
  l1 : s.1.length = m
  l2 : s.2.length = m
  ok : ∀ i, i < m → stl (s.1.getD i 0) (s.2.getD i 0) = true
  b : ∀ y ∈ s.2, 0 ≤ y ∧ y ≤ 6
theorem getD_snoc (s : List Int) (y : Int) (m i : Nat) (h : s.length = m) : (s ++ [y]).getD i 0 = if i = m then y else s.getD i 0 := by
  subst h
  rw [List.getD_eq_getElem?_getD, List.getD_eq_getElem?_getD]
  by_cases e : i = s.length
  · subst e; rw [if_pos rfl, List.getElem?_append_right (Nat.le_refl _), Nat.sub_self]; rfl
  · rw [if_neg e]
    rcases zaX i s.length with h1 | h1
    · rw [List.getElem?_append_left h1]
    · rw [List.getElem?_append_right h1, List.getElem?_eq_none (by simp; omega), List.getElem?_eq_none h1]
theorem nuI_step (D : List Int) (j : Nat) {s : List Int × List Int} {m : Nat} (h : NuI s m) : NuI (s.1 ++ [(nuS D j).1.1], s.2 ++ [(nuS D j).1.2]) (m + 1) := by
  obtain ⟨h1, _, h3⟩ := nuS_ok D j
  refine ⟨by simp [h.l1], by simp [h.l2], fun i hi => ?_, fun y hy => ?_⟩
  · simp only
    rw [getD_snoc _ _ m i h.l1, getD_snoc _ _ m i h.l2]
    split
    · exact h1
    · exact h.ok i (by omega)
  · rcases List.mem_append.1 hy with hy | hy
    · exact h.b y hy
    · rw [List.mem_singleton.1 hy]; exact h3
theorem nuI_all (D : List Int) : ∀ (m : Nat) (s : List Int × List Int) (j k : Nat), NuI s k → NuI (nuL D m s j).1 (k + m)
  | 0, s, j, k, h => h
  | m + 1, s, j, k, h => by
    rw [nuL, show k + (m + 1) = (k + 1) + m by omega]
    exact nuI_all D m _ _ _ (nuI_step D j h)
def mkNu (D : List Int) (j m : Nat) : (List Int × List Int) × Nat := nuL D m ([], []) j
theorem mkNu_ok (D : List Int) (j m : Nat) : NuI (mkNu D j m).1 m := by
  have h : NuI ([], []) 0 := ⟨rfl, rfl, fun i hi => absurd hi (Nat.not_lt_zero _), fun y hy => by cases hy⟩
  have := nuI_all D m ([], []) j 0 h
  rw [zaZ] at this
  exact this
set_option maxHeartbeats 16000000 in
theorem numbers_spec (D : List Int) (hl : D.length ≤ 600) (hr : ∀ x ∈ D, -9223372036854775808 ≤ x ∧ x ≤ 9223372036854775807) (j m : Nat) (hm : m ≤ 1000000) :
    FnSpec Tryz.prog 26 [dp, i1 m] [dice D j] (.tup [gi (mkNu D j m).1.1 none, gi (mkNu D j m).1.2 none]) [some (dice D (mkNu D j m).2)] := by
  obtain ⟨T, hT⟩ : ∃ T, mkNu D j m = T := ⟨_, rfl⟩
  rw [hT]
  obtain ⟨⟨Q, B⟩, J⟩ := T
  unfold mkNu at hT
  simp only
  refine fnspec_of mixed TT_ok TT_cl ⟨fun _ => false, lendD, 1, fun _ => false, fun _ => false⟩ Tryz.func26 rfl (by kernel_rfl) rfl 35 rfl [.tmp 4, .tmp 5] rfl ?_
  simp only [go_sem, zaa, zah, zai, zaj, zal, zae, ↓reduceIte, reduceCtorEq, zab, zac, zam, zan, zao, lendD]
  repeat' (first
 | (intros; (try simp only [zat, zav, zas, zar, zap, zaq, decide_eq_true_eq, decide_eq_false_iff_not] at *); omega))
  refine w_loop (ι := Nat × (List Int × List Int) × Nat) (fun s => ⟨[(0, dp), (1, i1 m), (6, .one (.osl 1 0 s.2.1.1.length none)), (7, .one (.osl 2 0 s.2.1.2.length none)), (8, i1 s.1)], [(0, some (dice D s.2.2)), (1, some ⟨Ints s.2.1.1, 1⟩), (2, some ⟨Ints s.2.1.2, 1⟩)], 3⟩) (fun s => s.1 ≤ m ∧ s.2.1.1.length = s.1 ∧ s.2.1.2.length = s.1 ∧ nuL D (m - s.1) s.2.1 s.2.2 = ((Q, B), J)) (fun s => m - s.1) (0, ([], []), j) ?_ ⟨zaV _, rfl, rfl, by rw [Nat.sub_zero]; exact hT⟩ ?_
  · (refine Imp.trans (imp_nilA _ _ 6 1 98 (by simp only []; omega) rfl) ?_)
    (refine Imp.trans (imp_nilA _ _ 7 1 99 (by simp only []; omega) rfl) ?_)
    (refine imp_ren _ _ _ [(0, 0, dice D j), (1, 98, ⟨[], 1⟩), (2, 99, ⟨[], 1⟩)] (by simp) (by simp) (by simp) (zaz rfl) ?_ rfl (by simp only [zad, zaf, false_implies, implies_true, and_true, zaT, lookR, zaa, if_true, if_false, ↓reduceIte, dice] <;> (repeat' apply zaw) <;> (first | rfl | trivial)) (by simp only [zad, zaf, false_implies, implies_true, and_true, true_and, flat_cons, flat_nil, flat_ints, flat_bools, flat_app, zaR, and_self, eq_self_iff_true, zau, dice]); simp only [zag, zak, zad, zaf, false_implies, implies_true, and_true, lk, slot, zaK, zay, toN, zaa, if_true, if_false, ↓reduceIte, reduceCtorEq])
    all_goals ((repeat' apply zaw) <;> (first | rfl | trivial))
  clear hT
  rintro ⟨i, ⟨q, b⟩, j0⟩ ⟨hi, hq, hb, hL⟩
  simp only at hi hq hb hL ⊢
  rcases zaX i m with hlt | hge
  case inr =>
    have c : ¬ (i : Int) < (m : Int) := by omega
    obtain rfl : i = m := by omega
    rw [Nat.sub_self, nuL] at hL
    obtain ⟨hL1, rfl⟩ := Prod.mk.inj hL
    obtain ⟨rfl, rfl⟩ := Prod.mk.inj hL1
    simp only [go_sem, zaa, zah, zai, zaj, zal, zae, ↓reduceIte, reduceCtorEq, zab, zac, zam, zan, zao, decide_eq_false c, lendD]
    repeat' (first
 | (intros; (try simp only [zat, zav, zas, zar, zap, zaq, decide_eq_true_eq, decide_eq_false_iff_not] at *); omega))
    (refine fs_frz 1 ⟨Ints q, 1⟩ (by simp only [zaT, lookR, zaa, if_true, if_false, ↓reduceIte]) (by first | exact Ints_isG _ | exact Bools_isG _ | exact Cs_isG _ | (simp [zbe]; done)) ?_; simp only [frzTm, SV.frz, zbi, zbd, frzHp, frzO, Ints_frz, Bools_frz, zag, zak, zaa, if_true, if_false, ↓reduceIte])
    (refine fs_frz 2 ⟨Ints b, 1⟩ (by simp only [zaT, lookR, zaa, if_true, if_false, ↓reduceIte]) (by first | exact Ints_isG _ | exact Bools_isG _ | exact Cs_isG _ | (simp [zbe]; done)) ?_; simp only [frzTm, SV.frz, zbi, zbd, frzHp, frzO, Ints_frz, Bools_frz, zag, zak, zaa, if_true, if_false, ↓reduceIte])
    (refine fs_flat [(0, dice D j0)] (by simp) (by simp only [zag, zak]; decide) (by simp only [go_sem, resV, resS, zaK, zaN, zay, zbb, zaT, idx, renO, zaO, evS, slot, lookR, zaa, ↓reduceIte, reduceCtorEq, if_true, if_false, zaH, zaI, zag, zak, sLoad, readAt, readNeed, Ints_ren, Ints_length, Ints_getD, and_true, true_and, zaA, zaB]; try decide) ?_ (by simp only [zad, zaf, false_implies, implies_true, and_true, zaT, lookR, zaa, if_true, if_false, ↓reduceIte, dice] <;> (repeat' apply zaw) <;> (first | rfl | trivial)) (by simp only [zad, zaf, false_implies, implies_true, and_true, true_and, flat_cons, flat_nil, flat_ints, flat_bools, flat_app, zaR, and_self, eq_self_iff_true, zau, dice]) ?_ <;> (try simp only [go_sem, resV, resS, zaK, zaN, zay, zbb, zaT, idx, renO, zaO, evS, slot, lookR, zaa, ↓reduceIte, reduceCtorEq, if_true, if_false, zaH, zaI, zag, zak, sLoad, readAt, readNeed, Ints_ren, Ints_length, Ints_getD, and_true, true_and, zaA, zaB]) <;> (try rfl))
  have c : (i : Int) < (m : Int) := by omega
  rw [show m - i = (m - (i + 1)) + 1 by omega, nuL] at hL
  have n1 := bool_spec D j0 2 hl hr (by decide)
  have htq : List.take i (Ints q) = Ints q := zaY (by rw [Ints_length]; omega)
  have htb : List.take i (Ints b) = Ints b := zaY (by rw [Ints_length]; omega)
  have hpp : ∀ (l : List Int) (y : Int), Ints l ++ [int y] = Ints (l ++ [y]) := fun l y => by simp [Ints]
  have hla : ∀ (l : List Int) (y : Int), l.length = i → (l ++ [y]).length = i + 1 := fun l y h => by simp [h]
  simp only [hq, hb]
  by_cases hv : nxV D j0 2 = 1
  · rw [decide_eq_true (by omega : nxV D j0 2 = 2 - 1)] at n1
    have n2 := next_spec D (nxA D j0 2) 6 hl hr (by decide)
    have r2 := nx_rng D (nxA D j0 2) 6 (by decide)
    have e : nuS D j0 = ((1 + nxV D (nxA D j0 2) 6, nxV D (nxA D (nxA D j0 2) 6) (1 + nxV D (nxA D j0 2) 6 + 1)), nxA D (nxA D (nxA D j0 2) 6) (1 + nxV D (nxA D j0 2) 6 + 1)) := by unfold nuS; rw [if_pos hv]
    rw [e] at hL
    simp only at hL
    generalize nxA D j0 2 = j1 at *
    generalize nxV D j1 6 = v1 at *
    generalize nxA D j1 6 = j2 at *
    have n3 := next_spec D j2 (1 + v1 + 1) hl hr (by omega)
    generalize nxV D j2 (1 + v1 + 1) = v2 at *
    generalize nxA D j2 (1 + v1 + 1) = j3 at *
    simp only [go_sem, zaa, zah, zai, zaj, zal, zae, ↓reduceIte, reduceCtorEq, zab, zac, zam, zan, zao, decide_eq_true c, lendD]
    repeat' (first
 | with_reducible refine zaw ?_ ?_
 | (apply cl_lend
    case hr => (simp only [zag, zak, hpL', lookR, zaa, if_true, if_false]; first | exact map1 _ | exact map2 _ _ | exact map3 _ _ _)
    case ha => (simp only [zag, zak, prepV, prepC, idx, hpL', lookR, zaa, if_true, if_false]; rfl)
    case hs => rfl
    case hn => decide
    case h => (first | exact n1 .. | exact n2 .. | exact n3 ..)
    case hf => (simp only [zad, zaf, false_implies, implies_true, and_true, true_and, flat_cons, flat_nil, flat_ints, flat_bools, flat_app, Cs_flat, zaR, and_self, eq_self_iff_true, zau])
    case hl => (simp only [zaC, zaE]; decide))
 | ((first | refine s1_id ?_ | refine swp_id ?_ | refine sops_id ?_ | refine s2_id ?_); simp only [decide_eq_true c, lendD, dice, htq, htb, hpp, zaJ, zaL, zau, zaM, zaP, zaF, zaG, zaD, zaQ, zaS, zaC, zaE, go_sem, zaa, zah, zai, zaj, zal, zae, ↓reduceIte, reduceCtorEq, zab, zac, zam, zan, zao, zaK, zaN, zay, zaO, renO, bk, back, outUpsFrom, Ints_ren])
 | (intros; omega)
 | (intros; (try simp only [zat, zav, zas, zar, zap, zaq, decide_eq_true_eq, decide_eq_false_iff_not] at *); omega))
    refine le_mk (i + 1, (q ++ [1 + v1], b ++ [v2]), j3) ?_ ⟨hlt, hla _ _ hq, hla _ _ hb, hL⟩ (by show m - (i + 1) < m - i; omega)
    simp only [hla q _ hq, hla b _ hb]
    (refine imp_ren _ _ _ [(0, 0, dice D j3), (1, 22, ⟨Ints (q ++ [1 + v1]), 1⟩), (2, 26, ⟨Ints (b ++ [v2]), 1⟩)] (by simp) (by simp) (by simp) (zaz rfl) ?_ rfl (by simp only [zad, zaf, false_implies, implies_true, and_true, zaT, lookR, zaa, if_true, if_false, ↓reduceIte, dice] <;> (repeat' apply zaw) <;> (first | rfl | trivial)) (by simp only [zad, zaf, false_implies, implies_true, and_true, true_and, flat_cons, flat_nil, flat_ints, flat_bools, flat_app, zaR, and_self, eq_self_iff_true, zau, dice]); simp only [zag, zak, zad, zaf, false_implies, implies_true, and_true, lk, slot, zaK, zay, toN, zaa, if_true, if_false, ↓reduceIte, reduceCtorEq])
    all_goals ((repeat' apply zaw) <;> (first | rfl | trivial | (simp only [zax]; done) | (simp only [zax]; rfl) | (simp only [zax]; trivial)))
  · rw [decide_eq_false (by omega : ¬ nxV D j0 2 = 2 - 1)] at n1
    have e : nuS D j0 = ((4611686018427387904, 0), nxA D j0 2) := by unfold nuS; rw [if_neg hv]
    rw [e] at hL
    simp only at hL
    generalize nxA D j0 2 = j1 at *
    simp only [go_sem, zaa, zah, zai, zaj, zal, zae, ↓reduceIte, reduceCtorEq, zab, zac, zam, zan, zao, decide_eq_true c, lendD]
    repeat' (first
 | with_reducible refine zaw ?_ ?_
 | (apply cl_lend
    case hr => (simp only [zag, zak, hpL', lookR, zaa, if_true, if_false]; first | exact map1 _ | exact map2 _ _ | exact map3 _ _ _)
    case ha => (simp only [zag, zak, prepV, prepC, idx, hpL', lookR, zaa, if_true, if_false]; rfl)
    case hs => rfl
    case hn => decide
    case h => (first | exact n1 ..)
    case hf => (simp only [zad, zaf, false_implies, implies_true, and_true, true_and, flat_cons, flat_nil, flat_ints, flat_bools, flat_app, Cs_flat, zaR, and_self, eq_self_iff_true, zau])
    case hl => (simp only [zaC, zaE]; decide))
 | ((first | refine s1_id ?_ | refine swp_id ?_ | refine sops_id ?_ | refine s2_id ?_); simp only [decide_eq_true c, lendD, dice, htq, htb, hpp, zaJ, zaL, zau, zaM, zaP, zaF, zaG, zaD, zaQ, zaS, zaC, zaE, go_sem, zaa, zah, zai, zaj, zal, zae, ↓reduceIte, reduceCtorEq, zab, zac, zam, zan, zao, zaK, zaN, zay, zaO, renO, bk, back, outUpsFrom, Ints_ren])
 | (intros; omega)
 | (intros; (try simp only [zat, zav, zas, zar, zap, zaq, decide_eq_true_eq, decide_eq_false_iff_not] at *); omega))
    refine le_mk (i + 1, (q ++ [4611686018427387904], b ++ [0]), j1) ?_ ⟨hlt, hla _ _ hq, hla _ _ hb, hL⟩ (by show m - (i + 1) < m - i; omega)
    simp only [hla q _ hq, hla b _ hb]
    (refine imp_ren _ _ _ [(0, 0, dice D j1), (1, 13, ⟨Ints (q ++ [4611686018427387904]), 1⟩), (2, 17, ⟨Ints (b ++ [0]), 1⟩)] (by simp) (by simp) (by simp) (zaz rfl) ?_ rfl (by simp only [zad, zaf, false_implies, implies_true, and_true, zaT, lookR, zaa, if_true, if_false, ↓reduceIte, dice] <;> (repeat' apply zaw) <;> (first | rfl | trivial)) (by simp only [zad, zaf, false_implies, implies_true, and_true, true_and, flat_cons, flat_nil, flat_ints, flat_bools, flat_app, zaR, and_self, eq_self_iff_true, zau, dice]); simp only [zag, zak, zad, zaf, false_implies, implies_true, and_true, lk, slot, zaK, zay, toN, zaa, if_true, if_false, ↓reduceIte, reduceCtorEq])
    all_goals ((repeat' apply zaw) <;> (first | rfl | trivial | (simp only [zax]; done) | (simp only [zax]; rfl) | (simp only [zax]; trivial)))
structure Pv (l : List Nd) (n : Int) (P : List Pl) (c : Int) : Prop where
  ok : thC l n P = true
  c : ∀ i, i < P.length → ((gP P i).c.length : Int) = c
theorem Pv.vt {l : List Nd} {n : Int} {P : List Pl} {c : Int} (h : Pv l n P c) : VT l n := (thC_at h.ok).1
theorem Pv.len {l : List Nd} {n : Int} {P : List Pl} {c : Int} (h : Pv l n P c) : P.length = l.length := (thC_at h.ok).2.1
theorem Pv.pck {l : List Nd} {n : Int} {P : List Pl} {c : Int} (h : Pv l n P c) {i : Nat} (hi : i < P.length) : pck (gP P i) = true := ((thC_at h.ok).2.2 i hi).2.1
theorem Pv.g {l : List Nd} {n : Int} {P : List Pl} {c : Int} (h : Pv l n P c) {i : Nat} (hi : i < P.length) : (gP P i).g = (gN l i).i := ((thC_at h.ok).2.2 i hi).1
theorem gP_mem (P : List Pl) (x : Pl) (h : x ∈ P) : ∃ i, i < P.length ∧ gP P i = x := by
  obtain ⟨i, hi, rfl⟩ := List.getElem_of_mem h
  exact ⟨i, hi, getD_at P i zpl hi⟩
theorem Pv.all {l : List Nd} {n : Int} {P : List Pl} {c : Int} (h : Pv l n P c) : ∀ x ∈ P, Go.Proofs.YtcnilpdlcmpbbaaGreat.pck x = true := fun x hx => by
  obtain ⟨i, hi, rfl⟩ := gP_mem P x hx
  exact h.pck hi
theorem smp_of {x : Pl} (h : pck x = true) : SmP x := by
  rw [pck_iff, stl_iff] at h
  exact ⟨by omega, by omega, by omega, by omega⟩
theorem pv_of {l : List Nd} {n : Int} {P : List Pl} {c : Int} (hV : VT l n) (hl : P.length = l.length) (h : ∀ i, i < P.length → (gP P i).g = (gN l i).i ∧ pck (gP P i) = true ∧ ((gP P i).c.length : Int) = c) : Pv l n P c := by
  refine ⟨?_, fun i hi => (h i hi).2.2⟩
  unfold thC thOk
  simp only [zat, decide_eq_true_eq, allN_iff]
  exact ⟨(chkT_iff l n).2 hV, hl, fun i hi => ⟨(h i hi).1, (h i hi).2.1, by have h1 := (h i hi).2.2; have h2 := (h 0 (by omega)).2.2; omega⟩⟩
def Kp (f : Pl → Pl) (c : Int) : Prop := ∀ x, pck x = true → (x.c.length : Int) = c → (f x).g = x.g ∧ pck (f x) = true ∧ (f x).c.length = x.c.length
theorem map_at (f : Pl → Pl) (P : List Pl) (i : Nat) (h : i < P.length) : gP (P.map f) i = f (gP P i) := by
  unfold gP
  simp [List.getD_eq_getElem?_getD, h]
theorem Pv.map {l : List Nd} {n : Int} {P : List Pl} {c : Int} (h : Pv l n P c) {f : Pl → Pl} (hf : Kp f c) : Pv l n (P.map f) c := by
  refine pv_of h.vt (by rw [zaU]; exact h.len) fun i hi => ?_
  rw [zaU] at hi
  rw [map_at f P i hi]
  obtain ⟨h1, h2, h3⟩ := hf _ (h.pck hi) (h.c i hi)
  exact ⟨by rw [h1]; exact h.g hi, h2, by rw [h3]; exact h.c i hi⟩
theorem Kp.iff {f : Pl → Pl} {c : Int} (hf : Kp f c) (p : Pl → Prop) [DecidablePred p] : Kp (fun x => if p x then f x else x) c := fun x h1 h2 => by
  simp only
  split
  · exact hf x h1 h2
  · exact ⟨rfl, h1, rfl⟩
theorem ptk_g (x : Pl) (cpu : Int) : (ptk x cpu).g = x.g ∧ (ptk x cpu).c.length = x.c.length := by simp [ptk, pmv]
theorem pdec_g (x : Pl) (cpu : Int) : (pdec x cpu).g = x.g ∧ (pdec x cpu).c.length = x.c.length := by simp [pdec]
theorem kp_sp {c cpu : Int} (h : 0 ≤ cpu ∧ cpu < c) : Kp (spF cpu) c := fun x h1 h2 => by
  have hc : 0 ≤ cpu ∧ cpu < x.c.length := by omega
  refine ⟨?_, (pspend_ok h1 hc).1, ?_⟩
  all_goals
    unfold spF pspend
    rw [if_neg (by simp [pchk_in h1 hc])]
    have a1 := ptk_g x cpu
    have a2 := pdec_g x cpu
    have a3 := pdec_g (ptk x cpu) cpu
    repeat' split
    all_goals first | rfl | simp only [a1, a2, a3]
theorem kp_rf (c : Int) (due : List Int) : Kp (rfF due) c := fun x h1 _ => by
  unfold rfF
  split
  · rename_i hh
    have h2 := hh.1
    have e : prefill x = (pfil x, 0) := by
      unfold prefill at h2 ⊢
      rw [if_neg (by simp [h1])] at h2 ⊢
      split at h2
      · cases h2
      · rename_i h3; rw [if_neg h3]
    have h3 : x.pe ≠ 1099511627776 := fun q => by
      unfold prefill at e
      rw [if_neg (by simp [h1]), if_pos q] at e
      cases (Prod.mk.inj e).2
    rw [e]
    exact ⟨rfl, (pfil_ok h1 h3).1, rfl⟩
  · exact ⟨rfl, h1, rfl⟩
theorem Pv.sp {l : List Nd} {n : Int} {P : List Pl} {c : Int} (h : Pv l n P c) {g cpu : Int} (he : (thSp l n P g cpu).2 = 0 ∨ (thSp l n P g cpu).2 = 11) : Pv l n (thSp l n P g cpu).1 c := by
  unfold thSp at he ⊢
  rw [if_neg (by simp [h.ok])] at he ⊢
  split at he
  · simp at he
  rename_i h1
  rw [if_neg h1]
  split at he
  · simp at he
  rename_i h2
  rw [if_neg h2]
  rw [Bool.not_eq_false, wi_iff] at h2
  have h0 := h.c 0 (by rw [h.len]; exact h.vt.ne)
  have hk := kp_sp (cpu := cpu) (c := c) (by omega)
  split
  · exact h.map (hk.iff _)
  · exact h.map (hk.iff _)
theorem Pv.rf {l : List Nd} {n : Int} {P : List Pl} {c : Int} (h : Pv l n P c) (due : List Int) : Pv l n (thRf l n P due) c := by
  unfold thRf
  rw [if_pos h.ok]
  exact h.map (kp_rf c due)
theorem pn0_pck {g q b s c : Int} (hg : 1 ≤ g ∧ g ≤ 2147483647) (hst : stl q b = true) (hs : 1 ≤ s ∧ s ≤ 1000000) (hc : 1 ≤ c ∧ c ≤ 16) : pnew g q b s c = (pn0 g q b s c, 0) ∧ pck (pn0 g q b s c) = true := by
  have hp : pck (pn0 g q b s c) = true := by
    have hx := stl_iff.1 hst
    have hm : mst (pn0 g q b s c) = if q = 4611686018427387904 then 0 else q + b := by
      unfold mst lim pn0
      simp only
      by_cases e : q = 4611686018427387904
      · simp [e]
      · simp [e]
    have hl : (pn0 g q b s c).l = if q = 4611686018427387904 then 0 else q := rfl
    have h0 : ∀ i, (pn0 g q b s c).c.getD i 0 = 0 := fun i => by
      simp only [pn0, List.getD_eq_getElem?_getD, List.getElem?_replicate]
      split <;> rfl
    have ht : hld (pn0 g q b s c) = (pn0 g q b s c).l := by
      have h3 : ∀ m, sumN (pn0 g q b s c).c m = 0 := fun m => by
        induction m with
        | zero => rfl
        | succ m ih => rw [sumN, ih, h0]; rfl
      unfold hld tot
      rw [h3]; omega
    rw [pck_iff]
    have hcl : (pn0 g q b s c).c.length = c.toNat := by simp [pn0]
    refine ⟨hg, hst, hs, by rw [hcl]; omega, ⟨?_, ?_, ?_⟩, ?_⟩
    · exact (call_of (fun i => by rw [h0]; omega) (by rw [hl]; split <;> omega) (by rw [ht, hl, hm]; split <;> omega)).1
    · rw [hl, hm]; split <;> omega
    · rw [ht, hl, hm]; split <;> omega
    · simp [pn0, ccnt, wi]
  refine ⟨?_, hp⟩
  unfold pnew
  rw [if_neg (by rw [Bool.not_eq_false, wi_iff]; omega), if_neg (by simp [hp])]
theorem thNw_ok {l : List Nd} {n : Int} (hV : VT l n) {q : List Int × List Int} (hq : NuI q l.length) {s c : Int} (hs : 1 ≤ s ∧ s ≤ 1000000) (hc : 1 ≤ c ∧ c ≤ 16) : thNw l n q.1 q.2 s c = (nwN l q.1 q.2 s c l.length, 0) ∧ Pv l n (nwN l q.1 q.2 s c l.length) c ∧ ∀ i, i < l.length → gP (nwN l q.1 q.2 s c l.length) i = pn0 (gN l i).i (q.1.getD i 0) (q.2.getD i 0) s c := by
  have hall : ∀ i, i < l.length → nwE l q.1 q.2 s c i = (pn0 (gN l i).i (q.1.getD i 0) (q.2.getD i 0) s c, 0) ∧ pck (pn0 (gN l i).i (q.1.getD i 0) (q.2.getD i 0) s c) = true := fun i hi => by
    have h1 := hV.pos hi
    have h2 := hV.lt hi
    have h3 := hV.mx
    exact pn0_pck ⟨h1, by omega⟩ (hq.ok i hi) hs hc
  have hat : ∀ i, i < l.length → gP (nwN l q.1 q.2 s c l.length) i = pn0 (gN l i).i (q.1.getD i 0) (q.2.getD i 0) s c := fun i hi => by
    have e : gP (nwN l q.1 q.2 s c l.length) i = (nwE l q.1 q.2 s c i).1 := by
      unfold nwN gP
      simp [List.getD_eq_getElem?_getD, hi]
    rw [e, (hall i hi).1]
  refine ⟨?_, ?_, hat⟩
  · unfold thNw
    rw [(chkT_iff l n).2 hV, decide_eq_true hq.l1, decide_eq_true hq.l2, if_pos (by rfl), if_pos ((allN_iff _ _).2 fun i hi => decide_eq_true (by rw [(hall i hi).1]))]
  · refine pv_of hV (nwN_len _ _ _ _ _ _) fun i hi => ?_
    rw [nwN_len] at hi
    rw [hat i hi]
    refine ⟨rfl, (hall i hi).2, ?_⟩
    simp only [pn0, List.length_replicate]; omega
end Go.Proofs.YtcnilpdlcmpbbaaGreat
-- NEWGO
-- PRUNE: cl_lendx cl_use
-- ISG: Cs_isG
-- FLAT: Cs_flat
namespace Go.Proofs.YtcnilpdlcmpbbaaGreat
set_option linter.unusedVariables false
set_option linter.unusedSimpArgs false
open Go.Proofs.YtcnilpdlcmpbbaaGreat.Sh
set_option maxRecDepth 20000
def ixI (id : Int) : List Int → Nat → Int
  | [], _ => -1
  | y :: ys, i => if id = y then (i : Int) else ixI id ys (i + 1)
theorem ixI_mem (id : Int) : ∀ (ys : List Int) (i : Nat), decide (0 ≤ ixI id ys i) = decide (id ∈ ys)
  | [], i => by simp [ixI]
  | y :: ys, i => by
    rw [ixI]
    by_cases h : id = y
    · rw [if_pos h]; simp [h]
    · rw [if_neg h, ixI_mem id ys]; simp [h]
theorem scix_spec (xs : List Int) (c : Option Nat) (id : Int) (hl : xs.length ≤ 9223372036854775807) : FnSpec Tryz.prog 82 [gi xs c, i1 id] [] (i1 (ixI id xs 0)) [] := by
  refine fnspec_of mixed TT_ok TT_cl ⟨fun _ => false, fun _ => [], 0, fun _ => false, fun _ => false⟩ Tryz.func82 rfl (by kernel_rfl) rfl 19 rfl [.tmp 4] rfl ?_
  simp only [go_sem, zaa, zah, zai, zaj, zal, zae, ↓reduceIte, reduceCtorEq, zab, zac, zam, zan, zao]
  repeat' (first
 | (intros; (try simp only [zat, zav, zas, zar, zap, zaq, decide_eq_true_eq, decide_eq_false_iff_not] at *); omega))
  refine w_loop (ι := Nat) (fun m => ⟨[(0, gi xs c), (1, i1 id), (7, i1 xs.length), (8, i1 m)], [], 0⟩) (fun m => m ≤ xs.length ∧ ixI id xs 0 = ixI id (xs.drop m) m) (fun m => xs.length - m) 0 ?_ ⟨zaV _, rfl⟩ ?_
  · (refine imp_sub _ _ _ [] (by simp) (by simp) (by simp) (zaV _) ?_ rfl (by simp); simp only [zad, zaf, false_implies, implies_true, and_true, lk, slot, zaK, zay, zaa, if_true, if_false, ↓reduceIte, reduceCtorEq])
    all_goals ((repeat' apply zaw) <;> (first | rfl | trivial))
  rintro m ⟨hm, hI⟩
  simp only at hm hI ⊢
  rcases zaX m xs.length with hlt | hge
  case inr =>
    have c2 : ¬ (m : Int) < (xs.length : Int) := by omega
    rw [zbh hge] at hI
    rw [hI]
    simp only [go_sem, zaa, zah, zai, zaj, zal, zae, ↓reduceIte, reduceCtorEq, zab, zac, zam, zan, zao, decide_eq_false c2, ixI]
    repeat' (first
 | exact fs_nil trivial rfl
 | fail)
  have c2 : (m : Int) < (xs.length : Int) := by omega
  rw [drop_getD xs m 0 hlt, ixI] at hI
  by_cases h : id = xs.getD m 0
  · rw [if_pos h] at hI
    rw [hI]
    simp only [go_sem, zaa, zah, zai, zaj, zal, zae, ↓reduceIte, reduceCtorEq, zab, zac, zam, zan, zao, decide_eq_true c2, decide_eq_true h]
    repeat' (first
 | with_reducible refine zaw ?_ ?_
 | (intros; omega)
 | exact fs_nil trivial rfl
 | fail)
  · rw [if_neg h] at hI
    simp only [go_sem, zaa, zah, zai, zaj, zal, zae, ↓reduceIte, reduceCtorEq, zab, zac, zam, zan, zao, decide_eq_true c2, decide_eq_false h]
    repeat' (first
 | with_reducible refine zaw ?_ ?_
 | (intros; omega)
 | (intros; (try simp only [zat, zav, zas, zar, zap, zaq, decide_eq_true_eq, decide_eq_false_iff_not] at *); omega))
    refine le_mk (m + 1) ?_ ⟨hlt, hI⟩ (by omega)
    (refine imp_sub _ _ _ [] (by simp) (by simp) (by simp) (zaV _) ?_ rfl (by simp); simp only [zad, zaf, false_implies, implies_true, and_true, lk, slot, zaK, zay, zaa, if_true, if_false, ↓reduceIte, reduceCtorEq])
    all_goals ((repeat' apply zaw) <;> (first | rfl | trivial | (simp only [zax]; done) | (simp only [zax]; rfl) | (simp only [zax]; trivial)))
theorem sccon_spec (xs : List Int) (c : Option Nat) (id : Int) (hl : xs.length ≤ 9223372036854775807) : FnSpec Tryz.prog 49 [gi xs c, i1 id] [] (b1 (decide (id ∈ xs))) [] := by
  have h1 := scix_spec xs c id hl
  rw [← ixI_mem id xs 0]
  refine fnspec_of mixed TT_ok TT_cl ⟨fun _ => false, fun _ => [], 0, fun _ => false, fun _ => false⟩ Tryz.func49 rfl (by kernel_rfl) rfl 9 rfl [.tmp 4] rfl ?_
  simp only [go_sem, zaa, zah, zai, zaj, zal, zae, ↓reduceIte, reduceCtorEq, zab, zac, zam, zan, zao]
  repeat' (first
 | (apply cl_plain
    case hs => rfl
    case ha => (simp only [zag, zak, prepV, prepC, idx, hpL', lookR, zaa, if_true, if_false]; rfl)
    case h => (first | exact h1 ..))
 | ((first | refine s1_id ?_ | refine swp_id ?_ | refine sops_id ?_ | refine s2_id ?_); simp only [go_sem, zaa, zah, zai, zaj, zal, zae, ↓reduceIte, reduceCtorEq, zab, zac, zam, zan, zao, zaK, zaN, zay, zaO, renO, bk, back, outUpsFrom, Ints_ren])
 | exact fs_nil trivial rfl
 | fail)
def eaF (f : Pl → Pl × Int) (x : Pl) : Pl := if (f x).2 = 0 then (f x).1 else x
def thEa (l : List Nd) (n : Int) (L : List Pl) (f : Pl → Pl × Int) : List Pl := if thC l n L = true then L.map (eaF f) else []
set_option maxHeartbeats 16000000 in
theorem each_spec (g : FuncId) (c0 : List Cell) (f : Pl → Pl × Int) (hg : ∀ x, pck x = true → FnSpec Tryz.prog g [plt x none, .one (.gptr c0 0)] [] (pre (f x)) []) (l : List Nd) (n : Int) (L : List Pl) (k : Option Nat) (hl : l.length ≤ 1000000) (hL : L.length ≤ 1000000) (hnm : NmR l) (hct : CtR l) : FnSpec Tryz.prog 45 [trV l none n, gr L k, .one (.fn g [.gptr c0 0])] [] (gr (thEa l n L f) none) [] := by
  have h1 := thck_spec l n L k hl hL hnm hct
  unfold thEa
  cases hc : thC l n L with
  | false =>
    rw [hc] at h1
    rw [if_neg zaW]
    refine fnspec_of mixed TT_ok TT_cl ⟨fun _ => false, fun _ => [], 0, fun _ => false, fun _ => false⟩ Tryz.func45 rfl (by kernel_rfl) rfl 39 rfl [.tmp 6] rfl ?_
    simp only [go_sem, zaa, zah, zai, zaj, zal, zae, ↓reduceIte, reduceCtorEq, zab, zac, zam, zan, zao]
    repeat' (first
 | (apply cl_plain
    case hs => rfl
    case ha => (simp only [zag, zak, prepV, prepC, idx, hpL', lookR, zaa, if_true, if_false]; rfl)
    case h => (first | exact h1 ..))
 | ((first | refine s1_id ?_ | refine swp_id ?_ | refine sops_id ?_ | refine s2_id ?_); simp only [go_sem, zaa, zah, zai, zaj, zal, zae, ↓reduceIte, reduceCtorEq, zab, zac, zam, zan, zao, zaK, zaN, zay, zaO, renO, bk, back, outUpsFrom, Ints_ren])
 | (intros; (try simp only [zat, zav, zas, zar, zap, zaq, decide_eq_true_eq, decide_eq_false_iff_not] at *); omega))
    repeat' (first
 | exact fs_w trivial (svw_of cw_gnil)
 | fail)
  | true =>
  rw [hc] at h1
  rw [if_pos rfl]
  obtain ⟨hV, hlen, hat⟩ := thC_at hc
  have hall : ∀ x ∈ L, pck x = true := fun x hx => by
    obtain ⟨i, hi, rfl⟩ := gP_mem L x hx
    exact (hat i hi).2.1
  have h3 := pools_own L k hL (fun x hx => by have := (nums (hall x hx)).len; omega) (fun x hx => pck_len (hall x hx))
  refine fnspec_of mixed TT_ok TT_cl ⟨fun _ => false, fun _ => [], 0, fun _ => false, fun _ => false⟩ Tryz.func45 rfl (by kernel_rfl) rfl 39 rfl [.tmp 6] rfl ?_
  simp only [go_sem, zaa, zah, zai, zaj, zal, zae, ↓reduceIte, reduceCtorEq, zab, zac, zam, zan, zao]
  repeat' (first
 | (apply cl_plain
    case hs => rfl
    case ha => (simp only [zag, zak, prepV, prepC, idx, hpL', lookR, zaa, if_true, if_false]; rfl)
    case h => (first | exact h1 .. | exact h3 ..))
 | ((first | refine s1_id ?_ | refine swp_id ?_ | refine sops_id ?_ | refine s2_id ?_); simp only [go_sem, zaa, zah, zai, zaj, zal, zae, ↓reduceIte, reduceCtorEq, zab, zac, zam, zan, zao, zaK, zaN, zay, zaO, renO, bk, back, outUpsFrom, Ints_ren])
 | (intros; (try simp only [zat, zav, zas, zar, zap, zaq, decide_eq_true_eq, decide_eq_false_iff_not] at *); omega))
  refine w_loop (ι := Nat) (fun m => ⟨[(2, .one (.fn g [.gptr c0 0])), (7, .one (.osl 0 0 L.length none)), (18, .one (.osl 0 0 L.length none)), (19, i1 L.length), (20, i1 m)], [(0, some ⟨Cs (mpN (eaF f) L m), 10⟩)], 1⟩) (fun m => m ≤ L.length) (fun m => L.length - m) 0 ?_ (zaV _) ?_
  · simp only [mpN_0]
    (refine imp_ren _ _ _ [(0, 7, ⟨Cs L, 10⟩)] (by simp) (by simp) (by simp) (zaz rfl) ?_ rfl (by simp only [zad, zaf, false_implies, implies_true, and_true, zaT, lookR, zaa, if_true, if_false, ↓reduceIte, Cs_flat] <;> (repeat' apply zaw) <;> (first | rfl | trivial)) (by simp only [zad, zaf, false_implies, implies_true, and_true, true_and, flat_cons, flat_nil, flat_ints, flat_bools, flat_app, zaR, and_self, eq_self_iff_true, zau, Cs_flat]); simp only [zag, zak, zad, zaf, false_implies, implies_true, and_true, lk, slot, zaK, zay, toN, zaa, if_true, if_false, ↓reduceIte, reduceCtorEq])
    all_goals ((repeat' apply zaw) <;> (first | rfl | trivial))
  clear h1 h3
  intro m hm
  simp only at hm ⊢
  rcases zaX m L.length with hlt | hge
  case inr =>
    have c : ¬ (m : Int) < (L.length : Int) := by omega
    rw [mpN_all (eaF f) L m hge]
    have hRl : (L.map (eaF f)).length = L.length := zaU _
    simp only [go_sem, zaa, zah, zai, zaj, zal, zae, ↓reduceIte, reduceCtorEq, zab, zac, zam, zan, zao, decide_eq_false c]
    repeat' (first
 | (intros; (try simp only [zat, zav, zas, zar, zap, zaq, decide_eq_true_eq, decide_eq_false_iff_not] at *); omega))
    (refine fs_frz 0 ⟨Cs (L.map (eaF f)), 10⟩ (by simp only [zaT, lookR, zaa, if_true, if_false, ↓reduceIte]) (by first | exact Ints_isG _ | exact Bools_isG _ | exact Cs_isG _ | (simp [zbe]; done)) ?_; simp only [frzTm, SV.frz, zbi, zbd, frzHp, frzO, Ints_frz, Bools_frz, zag, zak, zaa, if_true, if_false, ↓reduceIte])
    apply fs_nil <;> (try simp only [go_sem, resV, resS, zaK, zaN, zay, zbb, zaT, idx, renO, zaO, evS, slot, lookR, zaa, ↓reduceIte, reduceCtorEq, if_true, if_false, zaH, zaI, zag, zak, sLoad, readAt, readNeed, Ints_ren, Ints_length, Ints_getD, and_true, true_and, zaA, zaB]) <;> (try rfl)
    show SV.one (.gsl (Cs (L.map (eaF f))) 0 L.length none) = SV.one (.gsl (Cs (L.map (eaF f))) 0 (L.map (eaF f)).length none)
    rw [hRl]
  have c : (m : Int) < (L.length : Int) := by omega
  have hAt := mpN_at (eaF f) L m hlt
  have hCl := mpN_len (eaF f) L m
  have hT := pl_td (mpN (eaF f) L m) m (by omega)
  have hSt := pl_set (mpN (eaF f) L m) m (eaF f (gP L m)) (by omega)
  rw [mpN_set (eaF f) L m hlt] at hSt
  have hpc := pl_len (mpN (eaF f) L m)
  rw [hAt] at hT
  rw [hCl] at hpc
  have h6 := hg (gP L m) (hat m hlt).2.1
  have hfe : eaF f (gP L m) = if (f (gP L m)).2 = 0 then (f (gP L m)).1 else gP L m := rfl
  have hsk := mpN_skip (eaF f) L m hlt
  change putAt (Cs (mpN (eaF f) L m)) (m * 10) _ = Cs (mpN (eaF f) L (m + 1)) at hSt
  clear hAt hat hall hg
  by_cases k0 : (f (gP L m)).2 = 0
  · rw [if_pos k0] at hfe
    rw [hfe] at hSt
    clear hsk hfe
    generalize mpN (eaF f) L m = C at *
    generalize f (gP L m) = r at *
    obtain ⟨⟨s0, s1, s2, s3, s4, s5, s6, s7, s8, s9⟩, r2⟩ := r
    generalize gP L m = x at *
    obtain ⟨a, b, cc, d, e, ff, q1, q2, q3, q4⟩ := x
    simp only [plc, plt, pre] at hT h6 hSt
    simp only at k0
    simp only [go_sem, zaa, zah, zai, zaj, zal, zae, ↓reduceIte, reduceCtorEq, zab, zac, zam, zan, zao, decide_eq_true c, hT, hSt, decide_eq_true k0]
    repeat' (first
 | with_reducible refine zaw ?_ ?_
 | (apply cl_plain
    case hs => rfl
    case ha => (simp only [zag, zak, prepV, prepC, idx, hpL', lookR, zaa, if_true, if_false]; rfl)
    case h => (first | exact h6 ..))
 | ((first | refine s1_id ?_ | refine swp_id ?_ | refine sops_id ?_ | refine s2_id ?_); simp only [decide_eq_true c, hT, hSt, decide_eq_true k0, zaJ, zaL, zau, zaM, zaP, zaF, zaG, zaD, zaQ, zaS, zaC, zaE, go_sem, zaa, zah, zai, zaj, zal, zae, ↓reduceIte, reduceCtorEq, zab, zac, zam, zan, zao, zaK, zaN, zay, zaO, renO, bk, back, outUpsFrom, Ints_ren])
 | (intros; omega)
 | (intros; (try simp only [zat, zav, zas, zar, zap, zaq, decide_eq_true_eq, decide_eq_false_iff_not] at *); omega))
    refine le_mk (m + 1) ?_ hlt (by omega)
    (refine imp_ren _ _ _ [(0, 0, ⟨Cs (mpN (eaF f) L (m + 1)), 10⟩)] (by simp) (by simp) (by simp) (zaz rfl) ?_ rfl (by simp only [zad, zaf, false_implies, implies_true, and_true, zaT, lookR, zaa, if_true, if_false, ↓reduceIte, Cs_flat] <;> (repeat' apply zaw) <;> (first | rfl | trivial)) (by simp only [zad, zaf, false_implies, implies_true, and_true, true_and, flat_cons, flat_nil, flat_ints, flat_bools, flat_app, zaR, and_self, eq_self_iff_true, zau, Cs_flat]); simp only [zag, zak, zad, zaf, false_implies, implies_true, and_true, lk, slot, zaK, zay, toN, zaa, if_true, if_false, ↓reduceIte, reduceCtorEq])
    all_goals ((repeat' apply zaw) <;> (first | rfl | trivial | (simp only [zax]; done) | (simp only [zax]; rfl) | (simp only [zax]; trivial)))
  · rw [if_neg k0] at hfe
    have hsk := hsk hfe
    clear hfe hSt
    rw [hsk] at hT hpc
    simp only [hsk]
    generalize f (gP L m) = r at *
    obtain ⟨⟨s0, s1, s2, s3, s4, s5, s6, s7, s8, s9⟩, r2⟩ := r
    generalize gP L m = x at *
    obtain ⟨a, b, cc, d, e, ff, q1, q2, q3, q4⟩ := x
    simp only [plc, plt, pre] at hT h6
    simp only at k0
    simp only [go_sem, zaa, zah, zai, zaj, zal, zae, ↓reduceIte, reduceCtorEq, zab, zac, zam, zan, zao, decide_eq_true c, hT, decide_eq_false k0]
    repeat' (first
 | with_reducible refine zaw ?_ ?_
 | (apply cl_plain
    case hs => rfl
    case ha => (simp only [zag, zak, prepV, prepC, idx, hpL', lookR, zaa, if_true, if_false]; rfl)
    case h => (first | exact h6 ..))
 | ((first | refine s1_id ?_ | refine swp_id ?_ | refine sops_id ?_ | refine s2_id ?_); simp only [decide_eq_true c, hT, decide_eq_false k0, zaJ, zaL, zau, zaM, zaP, zaF, zaG, zaD, zaQ, zaS, zaC, zaE, go_sem, zaa, zah, zai, zaj, zal, zae, ↓reduceIte, reduceCtorEq, zab, zac, zam, zan, zao, zaK, zaN, zay, zaO, renO, bk, back, outUpsFrom, Ints_ren])
 | (intros; omega)
 | (intros; (try simp only [zat, zav, zas, zar, zap, zaq, decide_eq_true_eq, decide_eq_false_iff_not] at *); omega))
    refine le_mk (m + 1) ?_ hlt (by omega)
    (refine imp_ren _ _ _ [(0, 0, ⟨Cs (mpN (eaF f) L (m + 1)), 10⟩)] (by simp) (by simp) (by simp) (zaz rfl) ?_ rfl (by simp only [zad, zaf, false_implies, implies_true, and_true, zaT, lookR, zaa, if_true, if_false, ↓reduceIte, Cs_flat] <;> (repeat' apply zaw) <;> (first | rfl | trivial)) (by simp only [zad, zaf, false_implies, implies_true, and_true, true_and, flat_cons, flat_nil, flat_ints, flat_bools, flat_app, zaR, and_self, eq_self_iff_true, zau, Cs_flat]); simp only [zag, zak, zad, zaf, false_implies, implies_true, and_true, lk, slot, zaK, zay, toN, zaa, if_true, if_false, ↓reduceIte, reduceCtorEq])
    all_goals ((repeat' apply zaw) <;> (first | rfl | trivial | (simp only [zax]; done) | (simp only [zax]; rfl) | (simp only [zax]; trivial)))
def idF (cpu : Int) : Pl → Pl := eaF fun x => preturn x cpu
def thId (l : List Nd) (n : Int) (L : List Pl) (cpu : Int) : List Pl := thEa l n L fun x => preturn x cpu
theorem idle1_spec (x : Pl) (cpu : Int) (hp : pck x = true) : FnSpec Tryz.prog 46 [plt x none, .one (.gptr [int cpu] 0)] [] (pre (preturn x cpu)) [] := by
  have h1 := return_spec x none cpu (pck_len hp)
  generalize preturn x cpu = r at *
  obtain ⟨⟨s0, s1, s2, s3, s4, s5, s6, s7, s8, s9⟩, r2⟩ := r
  obtain ⟨a, b, cc, d, e, ff, q1, q2, q3, q4⟩ := x
  simp only [plc, plt, pre] at h1 ⊢
  refine fnspec_of mixed TT_ok TT_cl ⟨fun _ => false, fun _ => [], 0, fun _ => false, fun _ => false⟩ Tryz.func46 rfl (by kernel_rfl) rfl 10 rfl [.cell 3 43, .tmp 4] rfl ?_
  simp only [go_sem, zaa, zah, zai, zaj, zal, zae, ↓reduceIte, reduceCtorEq, zab, zac, zam, zan, zao]
  repeat' (first
 | with_reducible refine zaw ?_ ?_
 | (apply cl_plain
    case hs => rfl
    case ha => (simp only [zag, zak, prepV, prepC, idx, hpL', lookR, zaa, if_true, if_false]; rfl)
    case h => (first | exact h1 ..))
 | ((first | refine s1_id ?_ | refine swp_id ?_ | refine sops_id ?_ | refine s2_id ?_); simp only [zaJ, zaL, zau, zaM, zaP, zaF, zaG, zaD, zaQ, zaS, zaC, zaE, go_sem, zaa, zah, zai, zaj, zal, zae, ↓reduceIte, reduceCtorEq, zab, zac, zam, zan, zao, zaK, zaN, zay, zaO, renO, bk, back, outUpsFrom, Ints_ren])
 | (intros; omega)
 | (apply fs_nil <;> (try simp only [go_sem, resV, resS, zaK, zaN, zay, zbb, zaT, idx, renO, zaO, evS, slot, lookR, zaa, ↓reduceIte, reduceCtorEq, if_true, if_false, zaH, zaI, zag, zak, sLoad, readAt, readNeed, Ints_ren, Ints_length, Ints_getD, and_true, true_and, zaA, zaB]) <;> (try rfl))
 | fail)
theorem thidle_spec (l : List Nd) (n : Int) (L : List Pl) (k : Option Nat) (cpu : Int) (hl : l.length ≤ 1000000) (hL : L.length ≤ 1000000) (hnm : NmR l) (hct : CtR l) : FnSpec Tryz.prog 13 [trV l none n, gr L k, i1 cpu] [] (gr (thId l n L cpu) none) [] := by
  have h1 := each_spec 46 [int cpu] (fun x => preturn x cpu) (fun x hx => idle1_spec x cpu hx) l n L k hl hL hnm hct
  unfold thId
  generalize thEa l n L (fun x => preturn x cpu) = R at *
  refine fnspec_of mixed TT_ok TT_cl ⟨fun _ => false, fun _ => [], 0 , fun _ => false, fun i => if i = 1 then true else false⟩ Tryz.func13 rfl (by kernel_rfl) rfl 11 rfl [.tmp 6] rfl ?_
  simp only [go_sem, zaa, zah, zai, zaj, zal, zae, ↓reduceIte, reduceCtorEq, zab, zac, zam, zan, zao]
  repeat' (first
 | (intros; (try simp only [zat, zav, zas, zar, zap, zaq, decide_eq_true_eq, decide_eq_false_iff_not] at *); omega))
  (refine rgf_t _ (imp_frz _ _ 1 ⟨[int cpu], 1⟩ (by simp only [zaT, lookR, zaa, if_true, if_false, ↓reduceIte]) (by first | exact Ints_isG _ | exact Bools_isG _ | exact Cs_isG _ | (simp [zbe]; done))) ?_; simp only [frzTm, SV.frz, zbi, zbd, frzHp, frzO, Ints_frz, Bools_frz, zag, zak, zaa, if_true, if_false, ↓reduceIte])
  simp only [go_sem, zaa, zah, zai, zaj, zal, zae, ↓reduceIte, reduceCtorEq, zab, zac, zam, zan, zao]
  repeat' (first
 | (apply cl_plain
    case hs => rfl
    case ha => (simp only [zag, zak, prepV, prepC, idx, hpL', lookR, zaa, if_true, if_false]; rfl)
    case h => (first | exact h1 ..))
 | ((first | refine s1_id ?_ | refine swp_id ?_ | refine sops_id ?_ | refine s2_id ?_); simp only [go_sem, zaa, zah, zai, zaj, zal, zae, ↓reduceIte, reduceCtorEq, zab, zac, zam, zan, zao, zaK, zaN, zay, zaO, renO, bk, back, outUpsFrom, Ints_ren])
 | exact fs_nil trivial rfl
 | fail)
def rfG (due : List Int) (x : Pl) : Pl × Int := if x.g ∈ due then prefill x else (x, 0)
theorem rfG_eq (due : List Int) : eaF (rfG due) = rfF due := by
  funext x
  unfold eaF rfG rfF
  by_cases h : x.g ∈ due
  · simp [h]
  · simp [h]
theorem refill1_spec (x : Pl) (due : List Int) (kd : Option Nat) (hd : due.length ≤ 1000000) : FnSpec Tryz.prog 48 [plt x none, .one (.gptr [.gsl (Ints due) 0 due.length kd] 0)] [] (pre (rfG due x)) [] := by
  have h1 := refill_spec x none
  have h2 := sccon_spec due kd x.g (by omega)
  unfold rfG
  by_cases h : x.g ∈ due
  · rw [if_pos h]
    rw [decide_eq_true h] at h2
    generalize prefill x = r at *
    obtain ⟨⟨s0, s1, s2, s3, s4, s5, s6, s7, s8, s9⟩, r2⟩ := r
    obtain ⟨a, b, cc, d, e, ff, q1, q2, q3, q4⟩ := x
    simp only [plc, plt, pre] at h1 h2 ⊢
    refine fnspec_of mixed TT_ok TT_cl ⟨fun _ => false, fun _ => [], 0, fun _ => false, fun _ => false⟩ Tryz.func48 rfl (by kernel_rfl) rfl 15 rfl [.cell 3 43, .tmp 4] rfl ?_
    simp only [go_sem, zaa, zah, zai, zaj, zal, zae, ↓reduceIte, reduceCtorEq, zab, zac, zam, zan, zao]
    repeat' (first
 | with_reducible refine zaw ?_ ?_
 | (apply cl_plain
    case hs => rfl
    case ha => (simp only [zag, zak, prepV, prepC, idx, hpL', lookR, zaa, if_true, if_false]; rfl)
    case h => (first | exact h1 .. | exact h2 ..))
 | ((first | refine s1_id ?_ | refine swp_id ?_ | refine sops_id ?_ | refine s2_id ?_); simp only [zaJ, zaL, zau, zaM, zaP, zaF, zaG, zaD, zaQ, zaS, zaC, zaE, go_sem, zaa, zah, zai, zaj, zal, zae, ↓reduceIte, reduceCtorEq, zab, zac, zam, zan, zao, zaK, zaN, zay, zaO, renO, bk, back, outUpsFrom, Ints_ren])
 | (intros; omega)
 | (apply fs_nil <;> (try simp only [go_sem, resV, resS, zaK, zaN, zay, zbb, zaT, idx, renO, zaO, evS, slot, lookR, zaa, ↓reduceIte, reduceCtorEq, if_true, if_false, zaH, zaI, zag, zak, sLoad, readAt, readNeed, Ints_ren, Ints_length, Ints_getD, and_true, true_and, zaA, zaB]) <;> (try rfl))
 | fail)
  · rw [if_neg h]
    rw [decide_eq_false h] at h2
    obtain ⟨a, b, cc, d, e, ff, q1, q2, q3, q4⟩ := x
    simp only [plc, plt, pre] at h1 h2 ⊢
    refine fnspec_of mixed TT_ok TT_cl ⟨fun _ => false, fun _ => [], 0, fun _ => false, fun _ => false⟩ Tryz.func48 rfl (by kernel_rfl) rfl 15 rfl [.cell 3 43, .tmp 4] rfl ?_
    simp only [go_sem, zaa, zah, zai, zaj, zal, zae, ↓reduceIte, reduceCtorEq, zab, zac, zam, zan, zao]
    repeat' (first
 | with_reducible refine zaw ?_ ?_
 | (apply cl_plain
    case hs => rfl
    case ha => (simp only [zag, zak, prepV, prepC, idx, hpL', lookR, zaa, if_true, if_false]; rfl)
    case h => (first | exact h1 .. | exact h2 ..))
 | ((first | refine s1_id ?_ | refine swp_id ?_ | refine sops_id ?_ | refine s2_id ?_); simp only [zaJ, zaL, zau, zaM, zaP, zaF, zaG, zaD, zaQ, zaS, zaC, zaE, go_sem, zaa, zah, zai, zaj, zal, zae, ↓reduceIte, reduceCtorEq, zab, zac, zam, zan, zao, zaK, zaN, zay, zaO, renO, bk, back, outUpsFrom, Ints_ren])
 | (intros; omega)
 | (apply fs_nil <;> (try simp only [go_sem, resV, resS, zaK, zaN, zay, zbb, zaT, idx, renO, zaO, evS, slot, lookR, zaa, ↓reduceIte, reduceCtorEq, if_true, if_false, zaH, zaI, zag, zak, sLoad, readAt, readNeed, Ints_ren, Ints_length, Ints_getD, and_true, true_and, zaA, zaB]) <;> (try rfl))
 | fail)
theorem threfill_spec (l : List Nd) (n : Int) (L : List Pl) (k : Option Nat) (due : List Int) (kd : Option Nat) (hl : l.length ≤ 1000000) (hL : L.length ≤ 1000000) (hd : due.length ≤ 1000000) (hnm : NmR l) (hct : CtR l) : FnSpec Tryz.prog 14 [trV l none n, gr L k, gi due kd] [] (gr (thRf l n L due) none) [] := by
  have h1 := each_spec 48 [.gsl (Ints due) 0 due.length kd] (rfG due) (fun x _ => refill1_spec x due kd hd) l n L k hl hL hnm hct
  have he : thEa l n L (rfG due) = thRf l n L due := by unfold thEa thRf; rw [rfG_eq]
  rw [he] at h1
  generalize thRf l n L due = R at *
  refine fnspec_of mixed TT_ok TT_cl ⟨fun _ => false, fun _ => [], 0 , fun _ => false, fun i => if i = 1 then true else false⟩ Tryz.func14 rfl (by kernel_rfl) rfl 11 rfl [.tmp 6] rfl ?_
  simp only [go_sem, zaa, zah, zai, zaj, zal, zae, ↓reduceIte, reduceCtorEq, zab, zac, zam, zan, zao]
  repeat' (first
 | (intros; (try simp only [zat, zav, zas, zar, zap, zaq, decide_eq_true_eq, decide_eq_false_iff_not] at *); omega))
  (refine rgf_t _ (imp_frz _ _ 1 ⟨[.gsl (Ints due) 0 due.length kd], 1⟩ (by simp only [zaT, lookR, zaa, if_true, if_false, ↓reduceIte]) (by first | exact Ints_isG _ | exact Bools_isG _ | exact Cs_isG _ | (simp [zbe]; done))) ?_; simp only [frzTm, SV.frz, zbi, zbd, frzHp, frzO, Ints_frz, Bools_frz, zag, zak, zaa, if_true, if_false, ↓reduceIte])
  simp only [go_sem, zaa, zah, zai, zaj, zal, zae, ↓reduceIte, reduceCtorEq, zab, zac, zam, zan, zao]
  repeat' (first
 | (apply cl_plain
    case hs => rfl
    case ha => (simp only [zag, zak, prepV, prepC, idx, hpL', lookR, zaa, if_true, if_false]; rfl)
    case h => (first | exact h1 ..))
 | ((first | refine s1_id ?_ | refine swp_id ?_ | refine sops_id ?_ | refine s2_id ?_); simp only [go_sem, zaa, zah, zai, zaj, zal, zae, ↓reduceIte, reduceCtorEq, zab, zac, zam, zan, zao, zaK, zaN, zay, zaO, renO, bk, back, outUpsFrom, Ints_ren])
 | exact fs_nil trivial rfl
 | fail)
set_option maxHeartbeats 16000000 in
theorem rthidle_spec (l : List Nd) (n : Int) (L : List Pl) (k : Option Nat) (cpu : Int) (hl : l.length ≤ 1000000) (hL : L.length ≤ 1000000) (hnm : NmR l) (hsm : ∀ x ∈ L, SmP x) (hwk : ∀ x ∈ L, Wk x) (hcl : ∀ x ∈ L, x.c.length ≤ 1000) : FnSpec Tryz.prog 23 [trV l none n, gr L k, i1 cpu] [] (gr (thId l n L cpu) none) [] := by
  have h1 := rthck_spec l n L k hl hL hnm hsm
  have h3 := rpools_own L k hL hcl
  unfold thId thEa
  cases hc : thC l n L with
  | false =>
    rw [hc] at h1
    rw [if_neg zaW]
    refine fnspec_of mixed TT_ok TT_cl ⟨fun _ => false, fun _ => [], 0, fun _ => false, fun _ => false⟩ Tryz.func23 rfl (by kernel_rfl) rfl 39 rfl [.tmp 6] rfl ?_
    simp only [go_sem, zaa, zah, zai, zaj, zal, zae, ↓reduceIte, reduceCtorEq, zab, zac, zam, zan, zao]
    repeat' (first
 | (apply cl_plain
    case hs => rfl
    case ha => (simp only [zag, zak, prepV, prepC, idx, hpL', lookR, zaa, if_true, if_false]; rfl)
    case h => (first | exact h1 ..))
 | ((first | refine s1_id ?_ | refine swp_id ?_ | refine sops_id ?_ | refine s2_id ?_); simp only [go_sem, zaa, zah, zai, zaj, zal, zae, ↓reduceIte, reduceCtorEq, zab, zac, zam, zan, zao, zaK, zaN, zay, zaO, renO, bk, back, outUpsFrom, Ints_ren])
 | (intros; (try simp only [zat, zav, zas, zar, zap, zaq, decide_eq_true_eq, decide_eq_false_iff_not] at *); omega))
    repeat' (first
 | exact fs_w trivial (svw_of cw_gnil)
 | fail)
  | true =>
  rw [hc] at h1
  rw [if_pos rfl]
  obtain ⟨f, hf⟩ : ∃ f : Pl → Pl × Int, f = fun x => preturn x cpu := ⟨_, rfl⟩
  rw [← hf]
  refine fnspec_of mixed TT_ok TT_cl ⟨fun _ => false, fun _ => [], 0, fun _ => false, fun _ => false⟩ Tryz.func23 rfl (by kernel_rfl) rfl 39 rfl [.tmp 6] rfl ?_
  simp only [go_sem, zaa, zah, zai, zaj, zal, zae, ↓reduceIte, reduceCtorEq, zab, zac, zam, zan, zao]
  repeat' (first
 | (apply cl_plain
    case hs => rfl
    case ha => (simp only [zag, zak, prepV, prepC, idx, hpL', lookR, zaa, if_true, if_false]; rfl)
    case h => (first | exact h1 .. | exact h3 ..))
 | ((first | refine s1_id ?_ | refine swp_id ?_ | refine sops_id ?_ | refine s2_id ?_); simp only [go_sem, zaa, zah, zai, zaj, zal, zae, ↓reduceIte, reduceCtorEq, zab, zac, zam, zan, zao, zaK, zaN, zay, zaO, renO, bk, back, outUpsFrom, Ints_ren])
 | (intros; (try simp only [zat, zav, zas, zar, zap, zaq, decide_eq_true_eq, decide_eq_false_iff_not] at *); omega))
  refine w_loop (ι := Nat) (fun m => ⟨[(2, i1 cpu), (7, .one (.osl 0 0 L.length none)), (8, i1 m)], [(0, some ⟨Cs (mpN (eaF f) L m), 10⟩)], 1⟩) (fun m => m ≤ L.length) (fun m => L.length - m) 0 ?_ (zaV _) ?_
  · simp only [mpN_0]
    (refine imp_ren _ _ _ [(0, 7, ⟨Cs L, 10⟩)] (by simp) (by simp) (by simp) (zaz rfl) ?_ rfl (by simp only [zad, zaf, false_implies, implies_true, and_true, zaT, lookR, zaa, if_true, if_false, ↓reduceIte, Cs_flat] <;> (repeat' apply zaw) <;> (first | rfl | trivial)) (by simp only [zad, zaf, false_implies, implies_true, and_true, true_and, flat_cons, flat_nil, flat_ints, flat_bools, flat_app, zaR, and_self, eq_self_iff_true, zau, Cs_flat]); simp only [zag, zak, zad, zaf, false_implies, implies_true, and_true, lk, slot, zaK, zay, toN, zaa, if_true, if_false, ↓reduceIte, reduceCtorEq])
    all_goals ((repeat' apply zaw) <;> (first | rfl | trivial))
  clear h1 h3
  intro m hm
  simp only at hm ⊢
  rcases zaX m L.length with hlt | hge
  case inr =>
    have c : ¬ (m : Int) < (L.length : Int) := by omega
    rw [mpN_all (eaF f) L m hge]
    have hRl : (L.map (eaF f)).length = L.length := zaU _
    simp only [go_sem, zaa, zah, zai, zaj, zal, zae, ↓reduceIte, reduceCtorEq, zab, zac, zam, zan, zao, decide_eq_false c]
    repeat' (first
 | (intros; (try simp only [zat, zav, zas, zar, zap, zaq, decide_eq_true_eq, decide_eq_false_iff_not] at *); omega))
    (refine fs_frz 0 ⟨Cs (L.map (eaF f)), 10⟩ (by simp only [zaT, lookR, zaa, if_true, if_false, ↓reduceIte]) (by first | exact Ints_isG _ | exact Bools_isG _ | exact Cs_isG _ | (simp [zbe]; done)) ?_; simp only [frzTm, SV.frz, zbi, zbd, frzHp, frzO, Ints_frz, Bools_frz, zag, zak, zaa, if_true, if_false, ↓reduceIte])
    apply fs_nil <;> (try simp only [go_sem, resV, resS, zaK, zaN, zay, zbb, zaT, idx, renO, zaO, evS, slot, lookR, zaa, ↓reduceIte, reduceCtorEq, if_true, if_false, zaH, zaI, zag, zak, sLoad, readAt, readNeed, Ints_ren, Ints_length, Ints_getD, and_true, true_and, zaA, zaB]) <;> (try rfl)
    show SV.one (.gsl (Cs (L.map (eaF f))) 0 L.length none) = SV.one (.gsl (Cs (L.map (eaF f))) 0 (L.map (eaF f)).length none)
    rw [hRl]
  have c : (m : Int) < (L.length : Int) := by omega
  have hAt := mpN_at (eaF f) L m hlt
  have hCl := mpN_len (eaF f) L m
  have hT := pl_td (mpN (eaF f) L m) m (by omega)
  have hSt := pl_set (mpN (eaF f) L m) m (eaF f (gP L m)) (by omega)
  rw [mpN_set (eaF f) L m hlt] at hSt
  have hpc := pl_len (mpN (eaF f) L m)
  rw [hAt] at hT
  rw [hCl] at hpc
  have h6 := rreturn_spec (gP L m) none cpu (hwk _ (getD_mem L m zpl hlt))
  rw [show preturn (gP L m) cpu = f (gP L m) by rw [hf]] at h6
  have hfe : eaF f (gP L m) = if (f (gP L m)).2 = 0 then (f (gP L m)).1 else gP L m := rfl
  have hsk := mpN_skip (eaF f) L m hlt
  change putAt (Cs (mpN (eaF f) L m)) (m * 10) _ = Cs (mpN (eaF f) L (m + 1)) at hSt
  clear hAt hf
  by_cases k0 : (f (gP L m)).2 = 0
  · rw [if_pos k0] at hfe
    rw [hfe] at hSt
    clear hsk hfe
    generalize mpN (eaF f) L m = C at *
    generalize f (gP L m) = r at *
    obtain ⟨⟨s0, s1, s2, s3, s4, s5, s6, s7, s8, s9⟩, r2⟩ := r
    generalize gP L m = x at *
    obtain ⟨a, b, cc, d, e, ff, q1, q2, q3, q4⟩ := x
    simp only [plc, plt, pre] at hT h6 hSt
    simp only at k0
    simp only [go_sem, zaa, zah, zai, zaj, zal, zae, ↓reduceIte, reduceCtorEq, zab, zac, zam, zan, zao, decide_eq_true c, hT, hSt, decide_eq_true k0]
    repeat' (first
 | with_reducible refine zaw ?_ ?_
 | (apply cl_plain
    case hs => rfl
    case ha => (simp only [zag, zak, prepV, prepC, idx, hpL', lookR, zaa, if_true, if_false]; rfl)
    case h => (first | exact h6 ..))
 | ((first | refine s1_id ?_ | refine swp_id ?_ | refine sops_id ?_ | refine s2_id ?_); simp only [decide_eq_true c, hT, hSt, decide_eq_true k0, zaJ, zaL, zau, zaM, zaP, zaF, zaG, zaD, zaQ, zaS, zaC, zaE, go_sem, zaa, zah, zai, zaj, zal, zae, ↓reduceIte, reduceCtorEq, zab, zac, zam, zan, zao, zaK, zaN, zay, zaO, renO, bk, back, outUpsFrom, Ints_ren])
 | (intros; omega)
 | (intros; (try simp only [zat, zav, zas, zar, zap, zaq, decide_eq_true_eq, decide_eq_false_iff_not] at *); omega))
    refine le_mk (m + 1) ?_ hlt (by omega)
    (refine imp_ren _ _ _ [(0, 0, ⟨Cs (mpN (eaF f) L (m + 1)), 10⟩)] (by simp) (by simp) (by simp) (zaz rfl) ?_ rfl (by simp only [zad, zaf, false_implies, implies_true, and_true, zaT, lookR, zaa, if_true, if_false, ↓reduceIte, Cs_flat] <;> (repeat' apply zaw) <;> (first | rfl | trivial)) (by simp only [zad, zaf, false_implies, implies_true, and_true, true_and, flat_cons, flat_nil, flat_ints, flat_bools, flat_app, zaR, and_self, eq_self_iff_true, zau, Cs_flat]); simp only [zag, zak, zad, zaf, false_implies, implies_true, and_true, lk, slot, zaK, zay, toN, zaa, if_true, if_false, ↓reduceIte, reduceCtorEq])
    all_goals ((repeat' apply zaw) <;> (first | rfl | trivial | (simp only [zax]; done) | (simp only [zax]; rfl) | (simp only [zax]; trivial)))
  · rw [if_neg k0] at hfe
    have hsk := hsk hfe
    clear hfe hSt
    rw [hsk] at hT hpc
    simp only [hsk]
    generalize f (gP L m) = r at *
    obtain ⟨⟨s0, s1, s2, s3, s4, s5, s6, s7, s8, s9⟩, r2⟩ := r
    generalize gP L m = x at *
    obtain ⟨a, b, cc, d, e, ff, q1, q2, q3, q4⟩ := x
    simp only [plc, plt, pre] at hT h6
    simp only at k0
    simp only [go_sem, zaa, zah, zai, zaj, zal, zae, ↓reduceIte, reduceCtorEq, zab, zac, zam, zan, zao, decide_eq_true c, hT, decide_eq_false k0]
    repeat' (first
 | with_reducible refine zaw ?_ ?_
 | (apply cl_plain
    case hs => rfl
    case ha => (simp only [zag, zak, prepV, prepC, idx, hpL', lookR, zaa, if_true, if_false]; rfl)
    case h => (first | exact h6 ..))
 | ((first | refine s1_id ?_ | refine swp_id ?_ | refine sops_id ?_ | refine s2_id ?_); simp only [decide_eq_true c, hT, decide_eq_false k0, zaJ, zaL, zau, zaM, zaP, zaF, zaG, zaD, zaQ, zaS, zaC, zaE, go_sem, zaa, zah, zai, zaj, zal, zae, ↓reduceIte, reduceCtorEq, zab, zac, zam, zan, zao, zaK, zaN, zay, zaO, renO, bk, back, outUpsFrom, Ints_ren])
 | (intros; omega)
 | (intros; (try simp only [zat, zav, zas, zar, zap, zaq, decide_eq_true_eq, decide_eq_false_iff_not] at *); omega))
    refine le_mk (m + 1) ?_ hlt (by omega)
    (refine imp_ren _ _ _ [(0, 0, ⟨Cs (mpN (eaF f) L (m + 1)), 10⟩)] (by simp) (by simp) (by simp) (zaz rfl) ?_ rfl (by simp only [zad, zaf, false_implies, implies_true, and_true, zaT, lookR, zaa, if_true, if_false, ↓reduceIte, Cs_flat] <;> (repeat' apply zaw) <;> (first | rfl | trivial)) (by simp only [zad, zaf, false_implies, implies_true, and_true, true_and, flat_cons, flat_nil, flat_ints, flat_bools, flat_app, zaR, and_self, eq_self_iff_true, zau, Cs_flat]); simp only [zag, zak, zad, zaf, false_implies, implies_true, and_true, lk, slot, zaK, zay, toN, zaa, if_true, if_false, ↓reduceIte, reduceCtorEq])
    all_goals ((repeat' apply zaw) <;> (first | rfl | trivial | (simp only [zax]; done) | (simp only [zax]; rfl) | (simp only [zax]; trivial)))
theorem kp_id (c cpu : Int) : Kp (idF cpu) c := fun x h1 h2 => by
  rw [show idF cpu x = if (preturn x cpu).2 = 0 then (preturn x cpu).1 else x from rfl]
  split
  · rename_i hh
    have hc : 0 ≤ cpu ∧ cpu < x.c.length := by
      unfold preturn at hh
      split at hh
      · rename_i h3; simp at hh; exact absurd hh h3
      · rename_i h3; exact (pchk_ok (by simpa using h3)).2
    have e : preturn x cpu = (pret x cpu, 0) := by
      unfold preturn
      rw [if_neg (fun q => q (pchk_in h1 hc))]
    rw [e]
    exact ⟨rfl, (pret_ok h1 hc).1, by simp [pret]⟩
  · exact ⟨rfl, h1, rfl⟩
theorem Pv.idle {l : List Nd} {n : Int} {P : List Pl} {c : Int} (h : Pv l n P c) (cpu : Int) : Pv l n (thId l n P cpu) c := by
  unfold thId thEa
  rw [if_pos h.ok]
  exact h.map (kp_id c cpu)
theorem rthsame_spec (L : List Pl) (k k' : Option Nat) (hl : L.length ≤ 1000000) (hc : ∀ x ∈ L, x.c.length ≤ 1000) : FnSpec Tryz.prog 22 [gr L k, gr L k'] [] (b1 true) [] := by
  refine fnspec_of mixed TT_ok TT_cl ⟨fun _ => false, fun _ => [], 0, fun _ => false, fun _ => false⟩ Tryz.func22 rfl (by kernel_rfl) rfl 27 rfl [.tmp 4] rfl ?_
  simp only [go_sem, zaa, zah, zai, zaj, zal, zae, ↓reduceIte, reduceCtorEq, zab, zac, zam, zan, zao]
  repeat' (first
 | (intros; (try simp only [zat, zav, zas, zar, zap, zaq, decide_eq_true_eq, decide_eq_false_iff_not] at *); omega))
  refine w_loop (ι := Nat) (fun m => ⟨[(0, gr L k), (1, gr L k'), (5, i1 m)], [], 0⟩) (fun m => m ≤ L.length) (fun m => L.length - m) 0 ?_ (zaV _) ?_
  · (refine imp_sub _ _ _ [] (by simp) (by simp) (by simp) (zaV _) ?_ rfl (by simp); simp only [zad, zaf, false_implies, implies_true, and_true, lk, slot, zaK, zay, zaa, if_true, if_false, ↓reduceIte, reduceCtorEq])
    all_goals ((repeat' apply zaw) <;> (first | rfl | trivial))
  intro m hm
  simp only at hm ⊢
  rcases zaX m L.length with hlt | hge
  case inr =>
    have c : ¬ (m : Int) < (L.length : Int) := by omega
    simp only [go_sem, zaa, zah, zai, zaj, zal, zae, ↓reduceIte, reduceCtorEq, zab, zac, zam, zan, zao, decide_eq_false c]
    repeat' (first
 | exact fs_nil trivial rfl
 | fail)
  have c : (m : Int) < (L.length : Int) := by omega
  have hT := pl_td L m hlt
  have hpl := pl_len L
  have h1 := same_spec (gP L m) none none (hc _ (getD_mem L m zpl hlt))
  generalize gP L m = x at *
  obtain ⟨a, b, cc, d, e, ff, q1, q2, q3, q4⟩ := x
  simp only [plc, plt] at hT h1
  simp only [go_sem, zaa, zah, zai, zaj, zal, zae, ↓reduceIte, reduceCtorEq, zab, zac, zam, zan, zao, decide_eq_true c, hT]
  repeat' (first
 | with_reducible refine zaw ?_ ?_
 | (unfold OKC; kernel_rfl)
 | (unfold EDG; kernel_rfl)
 | (apply cl_plain
    case hs => rfl
    case ha => (simp only [zag, zak, prepV, prepC, idx, hpL', lookR, zaa, if_true, if_false]; rfl)
    case h => (first | exact h1 ..))
 | ((first | refine s1_id ?_ | refine swp_id ?_ | refine sops_id ?_ | refine s2_id ?_); simp only [decide_eq_true c, hT, zaJ, zaL, zau, zaM, zaP, zaF, zaG, zaD, zaQ, zaS, zaC, zaE, go_sem, zaa, zah, zai, zaj, zal, zae, ↓reduceIte, reduceCtorEq, zab, zac, zam, zan, zao, zaK, zaN, zay, zaO, renO, bk, back, outUpsFrom, Ints_ren])
 | (intros; omega)
 | (intros; (try simp only [zat, zav, zas, zar, zap, zaq, decide_eq_true_eq, decide_eq_false_iff_not] at *); omega))
  refine le_mk (m + 1) ?_ hlt (by omega)
  (refine imp_sub _ _ _ [] (by simp) (by simp) (by simp) (zaV _) ?_ rfl (by simp); simp only [zad, zaf, false_implies, implies_true, and_true, lk, slot, zaK, zay, zaa, if_true, if_false, ↓reduceIte, reduceCtorEq])
  all_goals ((repeat' apply zaw) <;> (first | rfl | trivial | (simp only [zax]; done) | (simp only [zax]; rfl) | (simp only [zax]; trivial)))
end Go.Proofs.YtcnilpdlcmpbbaaGreat
