/- Contracts of functions, told of values, on the way to SettingsChecks (part 6). -/
import Derived.Test.YtcnilpdlcmpbbabSettingsChecksM3
import Derived.Test.YtcnilpdlcmpbbabSettingsChecksM5
-- short names of the library's lemmas
open Nat renaming reduceEqDiff → zaa, reduceLeDiff → zai, reduceAdd → zan, reduceSub → zao, reduceMul → zap, reduceLT → zar, le_of_ble_eq_true → zaT
open List renaming forall_mem_cons → zab, map_cons → zac, map_nil → zad, not_mem_nil → zae, reduceReplicate → zaf, append_nil → zag, getD_cons_zero → zak, getD_cons_succ → zal, length_cons → zam, length_nil → zaq, take_succ_cons → zaA, set_cons_zero → zaE, set_cons_succ → zaF, flatten_cons → zaH, flatten_nil → zaI, cons_append → zaJ, nil_append → zaL, take_zero → zaM, take_nil → zaP, take_of_length_le → zaV
open Int renaming cast_ofNat_Int → zah, reduceEq → zaj, reduceLT → zas, reduceLE → zat, natCast_add → zaS
open Option renaming getD_some → zaw, getD_none → zax
open Bool renaming and_eq_false_iff → zau, or_eq_false_iff → zav, not_eq_false' → zay, not_eq_true' → zaz, and_eq_true → zaC, or_eq_true → zaG
open And renaming intro → zaB
open Go.Proofs.Ytcnilpdlcmpbbab.Sh.Cell renaming ren → zaD, refs → zaK
open Go.Proofs.Ytcnilpdlcmpbbab.Sh.SV renaming renL → zaN, ren → zaQ
open Go.Proofs.Ytcnilpdlcmpbbab.Sh.Row renaming ren → zaO
open Go.Proofs.Ytcnilpdlcmpbbab.Sh.St renaming hpF → zaR, tmF → zaU
-- NEWGO
-- PRUNE: cl_lendx cl_use
-- ISG: Cs_isG
-- FLAT: Cs_flat
namespace Go.Proofs.Ytcnilpdlcmpbbab
set_option linter.unusedVariables false
set_option linter.unusedSimpArgs false
open Go.Proofs.Ytcnilpdlcmpbbab.Sh
set_option maxRecDepth 20000
set_option maxHeartbeats 4000000 in
theorem dset_own (l : List Int) (j : Nat) (n : Nat) (hn : n ≤ 1000) (hl : l.length ≤ 600) (hr : ∀ x ∈ l, -9223372036854775808 ≤ x ∧ x ≤ 9223372036854775807) : FnSpec Try.prog 61 [dp, i1 n] [dice l j] (.one (.osl 1 0 (dSet l j n).1.length none)) [some (dice l (dSet l j n).2), some ⟨Ints (dSet l j n).1, 1⟩] := by
  obtain ⟨D, hD⟩ : ∃ D, dSet l j n = D := ⟨_, rfl⟩
  rw [hD]
  refine fnspec_of mixed TT_ok TT_cl ⟨fun _ => false, fun f => if f = 32 then [0] else [], 1, fun _ => false, fun _ => false⟩ Try.func61 rfl (by kernel_rfl) rfl 19 rfl [.tmp 4] rfl ?_
  simp only [go_sem, zaa, zan, zao, zap, zar, zai, ↓reduceIte, reduceCtorEq, zaf, zah, zaj, zas, zat]
  repeat' (first
 | (intros; (try simp only [zaC, zaG, zaz, zay, zau, zav, decide_eq_true_eq, decide_eq_false_iff_not] at *); omega))
  refine w_loop (ι := Nat × Nat × List Int) (fun s => ⟨[(0, dp), (1, i1 n), (5, .one (.osl 1 0 s.2.2.length none)), (6, i1 s.1)], [(0, some (dice l s.2.1)), (1, some ⟨Ints s.2.2, 1⟩)], 2⟩) (fun s => s.1 ≤ n ∧ s.2.2.length ≤ s.1 ∧ stA l (n - s.1) s.2.1 s.1 s.2.2 = D) (fun s => n - s.1) (0, j, []) ?_ ⟨Nat.zero_le _, Nat.le_refl _, hD⟩ ?_
  · (refine Imp.trans (imp_nilA _ _ 5 1 99 (by simp only []; omega) rfl) ?_)
    (refine imp_ren _ _ _ [(0, 0, dice l j), (1, 99, ⟨[], 1⟩)] (by simp) (by simp) (by simp) (zaT rfl) ?_ rfl (by simp only [zab, zae, false_implies, implies_true, and_true, zaR, lookR, zaa, if_true, if_false, ↓reduceIte, dice] <;> (repeat' apply zaB) <;> (first | rfl | trivial)) (by simp only [zab, zae, false_implies, implies_true, and_true, true_and, flat_cons, flat_nil, flat_ints, flat_bools, flat_app, zaK, and_self, eq_self_iff_true, zag, dice]); simp only [zac, zad, zab, zae, false_implies, implies_true, and_true, lk, slot, zaQ, zaD, toN, zaa, if_true, if_false, ↓reduceIte, reduceCtorEq])
    all_goals ((repeat' apply zaB) <;> (first | rfl | trivial))
  rintro ⟨k, i, acc⟩ ⟨hk, ha, hI⟩
  simp only at hk ha hI ⊢
  rcases Nat.lt_or_ge k n with hlt | hge
  case inr =>
    have c : ¬ (k : Int) < (n : Int) := by omega
    rw [show n - k = 0 by omega] at hI
    subst hI
    simp only [go_sem, zaa, zan, zao, zap, zar, zai, ↓reduceIte, reduceCtorEq, zaf, zah, zaj, zas, zat, decide_eq_false c, stA]
    repeat' (first
 | (intros; (try simp only [zaC, zaG, zaz, zay, zau, zav, decide_eq_true_eq, decide_eq_false_iff_not] at *); omega))
    (refine fs_flat [(0, dice l i), (1, ⟨Ints acc, 1⟩)] (by simp) (by simp only [zac, zad]; decide) (by simp only [go_sem, resV, resS, zaQ, zaN, zaD, zaU, zaR, idx, renO, zaO, evS, slot, lookR, zaa, ↓reduceIte, reduceCtorEq, if_true, if_false, zaw, zax, zac, zad, sLoad, readAt, readNeed, Ints_ren, Ints_length, Ints_getD, and_true, true_and, zak, zal]; try decide) ?_ (by simp only [zab, zae, false_implies, implies_true, and_true, zaR, lookR, zaa, if_true, if_false, ↓reduceIte, dice] <;> (repeat' apply zaB) <;> (first | rfl | trivial)) (by simp only [zab, zae, false_implies, implies_true, and_true, true_and, flat_cons, flat_nil, flat_ints, flat_bools, flat_app, zaK, and_self, eq_self_iff_true, zag, dice]) ?_ <;> (try simp only [go_sem, resV, resS, zaQ, zaN, zaD, zaU, zaR, idx, renO, zaO, evS, slot, lookR, zaa, ↓reduceIte, reduceCtorEq, if_true, if_false, zaw, zax, zac, zad, sLoad, readAt, readNeed, Ints_ren, Ints_length, Ints_getD, and_true, true_and, zak, zal]) <;> (try rfl))
  have c : (k : Int) < (n : Int) := by omega
  rw [show n - k = (n - (k + 1)) + 1 by omega, stA] at hI
  have h1 := bool_spec l i 3 hl hr (by omega)
  have htk : List.take acc.length (Ints acc) = Ints acc := zaV (by rw [Ints_length]; exact Nat.le_refl _)
  by_cases h2 : nxV l i 3 = 2
  · rw [decide_eq_true (by omega : nxV l i 3 = 3 - 1)] at h1
    rw [if_pos h2] at hI
    have hpp : Ints acc ++ [int k] = Ints (acc ++ [(k : Int)]) := by simp [Ints]
    have hla : (acc ++ [(k : Int)]).length = acc.length + 1 := by simp
    simp only [go_sem, zaa, zan, zao, zap, zar, zai, ↓reduceIte, reduceCtorEq, zaf, zah, zaj, zas, zat, decide_eq_true c]
    repeat' (first
 | with_reducible refine zaB ?_ ?_
 | (apply cl_lend
    case hr => (simp only [zac, zad, hpL', lookR, zaa, if_true, if_false]; first | exact map1 _ | exact map2 _ _ | exact map3 _ _ _)
    case ha => (simp only [zac, zad, prepV, prepC, idx, hpL', lookR, zaa, if_true, if_false]; rfl)
    case hs => rfl
    case hn => decide
    case h => (first | exact h1 ..)
    case hf => (simp only [zab, zae, false_implies, implies_true, and_true, true_and, flat_cons, flat_nil, flat_ints, flat_bools, flat_app, Cs_flat, zaK, and_self, eq_self_iff_true, zag])
    case hl => (simp only [zam, zaq]; decide))
 | ((first | refine s1_id ?_ | refine swp_id ?_ | refine sops_id ?_ | refine s2_id ?_); simp only [decide_eq_true c, htk, hpp, zaH, zaI, zag, zaJ, zaL, zaE, zaF, zaA, zaM, zaP, zam, zaq, go_sem, zaa, zan, zao, zap, zar, zai, ↓reduceIte, reduceCtorEq, zaf, zah, zaj, zas, zat, zaQ, zaN, zaD, zaO, renO, bk, back, outUpsFrom, Ints_ren])
 | (intros; omega)
 | (intros; (try simp only [zaC, zaG, zaz, zay, zau, zav, decide_eq_true_eq, decide_eq_false_iff_not] at *); omega))
    refine le_mk (k + 1, nxA l i 3, acc ++ [(k : Int)]) ?_ ⟨hlt, by show _ ≤ k + 1; rw [hla]; omega, hI⟩ (by show n - (k + 1) < n - k; omega)
    simp only [hla]
    (refine imp_ren _ _ _ [(0, 0, dice l (nxA l i 3)), (1, 10, ⟨Ints (acc ++ [(k : Int)]), 1⟩)] (by simp) (by simp) (by simp) (zaT rfl) ?_ rfl (by simp only [zab, zae, false_implies, implies_true, and_true, zaR, lookR, zaa, if_true, if_false, ↓reduceIte, dice] <;> (repeat' apply zaB) <;> (first | rfl | trivial)) (by simp only [zab, zae, false_implies, implies_true, and_true, true_and, flat_cons, flat_nil, flat_ints, flat_bools, flat_app, zaK, and_self, eq_self_iff_true, zag, dice]); simp only [zac, zad, zab, zae, false_implies, implies_true, and_true, lk, slot, zaQ, zaD, toN, zaa, if_true, if_false, ↓reduceIte, reduceCtorEq])
    all_goals ((repeat' apply zaB) <;> (first | rfl | trivial | (simp only [zaS]; done) | (simp only [zaS]; rfl) | (simp only [zaS]; trivial)))
  · rw [decide_eq_false (by omega : ¬ nxV l i 3 = 3 - 1)] at h1
    rw [if_neg h2] at hI
    simp only [go_sem, zaa, zan, zao, zap, zar, zai, ↓reduceIte, reduceCtorEq, zaf, zah, zaj, zas, zat, decide_eq_true c]
    repeat' (first
 | with_reducible refine zaB ?_ ?_
 | (apply cl_lend
    case hr => (simp only [zac, zad, hpL', lookR, zaa, if_true, if_false]; first | exact map1 _ | exact map2 _ _ | exact map3 _ _ _)
    case ha => (simp only [zac, zad, prepV, prepC, idx, hpL', lookR, zaa, if_true, if_false]; rfl)
    case hs => rfl
    case hn => decide
    case h => (first | exact h1 ..)
    case hf => (simp only [zab, zae, false_implies, implies_true, and_true, true_and, flat_cons, flat_nil, flat_ints, flat_bools, flat_app, Cs_flat, zaK, and_self, eq_self_iff_true, zag])
    case hl => (simp only [zam, zaq]; decide))
 | ((first | refine s1_id ?_ | refine swp_id ?_ | refine sops_id ?_ | refine s2_id ?_); simp only [decide_eq_true c, go_sem, zaa, zan, zao, zap, zar, zai, ↓reduceIte, reduceCtorEq, zaf, zah, zaj, zas, zat, zaQ, zaN, zaD, zaO, renO, bk, back, outUpsFrom, Ints_ren])
 | (intros; omega)
 | (intros; (try simp only [zaC, zaG, zaz, zay, zau, zav, decide_eq_true_eq, decide_eq_false_iff_not] at *); omega))
    refine le_mk (k + 1, nxA l i 3, acc) ?_ ⟨hlt, by show acc.length ≤ k + 1; omega, hI⟩ (by show n - (k + 1) < n - k; omega)
    (refine imp_ren _ _ _ [(0, 0, dice l (nxA l i 3)), (1, 1, ⟨Ints acc, 1⟩)] (by simp) (by simp) (by simp) (zaT rfl) ?_ rfl (by simp only [zab, zae, false_implies, implies_true, and_true, zaR, lookR, zaa, if_true, if_false, ↓reduceIte, dice] <;> (repeat' apply zaB) <;> (first | rfl | trivial)) (by simp only [zab, zae, false_implies, implies_true, and_true, true_and, flat_cons, flat_nil, flat_ints, flat_bools, flat_app, zaK, and_self, eq_self_iff_true, zag, dice]); simp only [zac, zad, zab, zae, false_implies, implies_true, and_true, lk, slot, zaQ, zaD, toN, zaa, if_true, if_false, ↓reduceIte, reduceCtorEq])
    all_goals ((repeat' apply zaB) <;> (first | rfl | trivial | (simp only [zaS]; done) | (simp only [zaS]; rfl) | (simp only [zaS]; trivial)))
def odK (D : List Int) (j : Nat) (x : Sg) (v : Int) : Sg × Nat :=
  if v = 0 then ({ x with pm := [-1, 1099511627776, 1099511627777, 4611686018427387904].getD (nxV D j 4).toNat 0 }, nxA D j 4)
  else if v = 1 then ({ x with w := [0, 1, 10000, 10001].getD (nxV D j 4).toNat 0 }, nxA D j 4)
  else if v = 2 then ({ x with q := [0, 1, 1000000, 1000001, 4611686018427387904].getD (nxV D j 5).toNat 0 }, nxA D j 5)
  else if v = 3 then ({ x with pe := [0, 1, 1000000, 1000001].getD (nxV D j 4).toNat 0 }, nxA D j 4)
  else if v = 4 then ({ x with b := nxV D j 12 - 1 }, nxA D j 12)
  else if v = 5 then ({ x with c0 := [-1, 0, 10000, 10001].getD (nxV D j 4).toNat 0 }, nxA D j 4)
  else if v = 6 then ({ x with c1 := [-1, 0, 10000, 10001].getD (nxV D j 4).toNat 0 }, nxA D j 4)
  else if v = 7 then ({ x with cp := (dSet D j 6).1 ++ [nxV D (dSet D j 6).2 20 - 1] }, nxA D (dSet D j 6).2 20)
  else if v = 8 then ({ x with mm := (dSet D j 4).1 ++ [nxV D (dSet D j 4).2 12 - 1] }, nxA D (dSet D j 4).2 12)
  else ({ x with pt := nxV D j 4 - 1 }, nxA D j 4)
def odS (D : List Int) (j : Nat) (x : Sg) : Sg × Nat := odK D (nxA D j 10) x (nxV D j 10)
theorem odS_r (D : List Int) (j : Nat) {x : Sg} (h : SgR x) : SgR (odS D j x).1 := by
  unfold odS odK
  have l6 := dSet_len D (nxA D j 10) 6
  have l4 := dSet_len D (nxA D j 10) 4
  refine ⟨?_, ?_⟩ <;> (repeat' split) <;> first | exact h.1 | exact h.2 | (simp only [List.length_append, List.length_singleton]; omega)
set_option maxHeartbeats 16000000 in
theorem oddset_spec (D : List Int) (hl : D.length ≤ 600) (hr : ∀ x ∈ D, -9223372036854775808 ≤ x ∧ x ≤ 9223372036854775807) (j : Nat) (x : Sg) (hx : SgR x) : FnSpec Try.prog 27 [dp, sgt x] [dice D j] (sgt (odS D j x).1) [some (dice D (odS D j x).2)] := by
  have a1 := srcp_spec x hx.1 hx.2
  have n1 := next_spec D j 10 hl hr (by decide)
  have r1 := nxV_rng D j 10 (by decide)
  unfold odS
  generalize nxV D j 10 = v at *
  generalize nxA D j 10 = j1 at *
  obtain ⟨pm, w, q, pe, b, c0, c1, cp, mm, pt, m0, m1, m2, m3, m4, mt⟩ := x
  simp only [sgt, sgc] at a1 ⊢
  have hv : v = 0 ∨ v = 1 ∨ v = 2 ∨ v = 3 ∨ v = 4 ∨ v = 5 ∨ v = 6 ∨ v = 7 ∨ v = 8 ∨ v = 9 := by omega
  rcases hv with rfl | rfl | rfl | rfl | rfl | rfl | rfl | rfl | rfl | rfl
  · have n2 := next_spec D j1 4 hl hr (by decide)
    have r2 := nxV_rng D j1 4 (by decide)
    simp only [odK, if_pos, if_neg, zaj, if_false, if_true, ↓reduceIte]
    generalize nxV D j1 4 = u at *
    generalize nxA D j1 4 = j2 at *
    refine fnspec_of mixed TT_ok TT_cl ⟨fun _ => false, lendS, 1, fun _ => false, fun _ => false⟩ Try.func27 rfl (by kernel_rfl) rfl 91 rfl [.cell 4 47] rfl ?_
    simp only [go_sem, zaa, zan, zao, zap, zar, zai, ↓reduceIte, reduceCtorEq, zaf, zah, zaj, zas, zat, lendS]
    repeat' (first
 | with_reducible refine zaB ?_ ?_
 | (apply cl_plain
    case hs => rfl
    case ha => (simp only [zac, zad, prepV, prepC, idx, hpL', lookR, zaa, if_true, if_false]; rfl)
    case h => (first | exact a1 .. | exact n1 .. | exact n2 ..))
 | (apply cl_lend
    case hr => (simp only [zac, zad, hpL', lookR, zaa, if_true, if_false]; first | exact map1 _ | exact map2 _ _ | exact map3 _ _ _)
    case ha => (simp only [zac, zad, prepV, prepC, idx, hpL', lookR, zaa, if_true, if_false]; rfl)
    case hs => rfl
    case hn => decide
    case h => (first | exact a1 .. | exact n1 .. | exact n2 ..)
    case hf => (simp only [zab, zae, false_implies, implies_true, and_true, true_and, flat_cons, flat_nil, flat_ints, flat_bools, flat_app, Cs_flat, zaK, and_self, eq_self_iff_true, zag])
    case hl => (simp only [zam, zaq]; decide))
 | ((first | refine s1_id ?_ | refine swp_id ?_ | refine sops_id ?_ | refine s2_id ?_); simp only [lendS, dice, zaH, zaI, zag, zaJ, zaL, zaE, zaF, zaA, zaM, zaP, zam, zaq, go_sem, zaa, zan, zao, zap, zar, zai, ↓reduceIte, reduceCtorEq, zaf, zah, zaj, zas, zat, zaQ, zaN, zaD, zaO, renO, bk, back, outUpsFrom, Ints_ren])
 | (intros; omega)
 | (intros; (try simp only [zaC, zaG, zaz, zay, zau, zav, decide_eq_true_eq, decide_eq_false_iff_not] at *); omega))
    (refine fs_flat [(0, dice D j2)] (by simp) (by simp only [zac, zad]; decide) (by simp only [go_sem, resV, resS, zaQ, zaN, zaD, zaU, zaR, idx, renO, zaO, evS, slot, lookR, zaa, ↓reduceIte, reduceCtorEq, if_true, if_false, zaw, zax, zac, zad, sLoad, readAt, readNeed, Ints_ren, Ints_length, Ints_getD, and_true, true_and, zak, zal]; try decide) ?_ (by simp only [zab, zae, false_implies, implies_true, and_true, zaR, lookR, zaa, if_true, if_false, ↓reduceIte, dice] <;> (repeat' apply zaB) <;> (first | rfl | trivial)) (by simp only [zab, zae, false_implies, implies_true, and_true, true_and, flat_cons, flat_nil, flat_ints, flat_bools, flat_app, zaK, and_self, eq_self_iff_true, zag, dice]) ?_ <;> (try simp only [go_sem, resV, resS, zaQ, zaN, zaD, zaU, zaR, idx, renO, zaO, evS, slot, lookR, zaa, ↓reduceIte, reduceCtorEq, if_true, if_false, zaw, zax, zac, zad, sLoad, readAt, readNeed, Ints_ren, Ints_length, Ints_getD, and_true, true_and, zak, zal]) <;> (try rfl))
  · have n2 := next_spec D j1 4 hl hr (by decide)
    have r2 := nxV_rng D j1 4 (by decide)
    simp only [odK, if_pos, if_neg, zaj, if_false, if_true, ↓reduceIte]
    generalize nxV D j1 4 = u at *
    generalize nxA D j1 4 = j2 at *
    refine fnspec_of mixed TT_ok TT_cl ⟨fun _ => false, lendS, 1, fun _ => false, fun _ => false⟩ Try.func27 rfl (by kernel_rfl) rfl 91 rfl [.cell 4 47] rfl ?_
    simp only [go_sem, zaa, zan, zao, zap, zar, zai, ↓reduceIte, reduceCtorEq, zaf, zah, zaj, zas, zat, lendS]
    repeat' (first
 | with_reducible refine zaB ?_ ?_
 | (apply cl_plain
    case hs => rfl
    case ha => (simp only [zac, zad, prepV, prepC, idx, hpL', lookR, zaa, if_true, if_false]; rfl)
    case h => (first | exact a1 .. | exact n1 .. | exact n2 ..))
 | (apply cl_lend
    case hr => (simp only [zac, zad, hpL', lookR, zaa, if_true, if_false]; first | exact map1 _ | exact map2 _ _ | exact map3 _ _ _)
    case ha => (simp only [zac, zad, prepV, prepC, idx, hpL', lookR, zaa, if_true, if_false]; rfl)
    case hs => rfl
    case hn => decide
    case h => (first | exact a1 .. | exact n1 .. | exact n2 ..)
    case hf => (simp only [zab, zae, false_implies, implies_true, and_true, true_and, flat_cons, flat_nil, flat_ints, flat_bools, flat_app, Cs_flat, zaK, and_self, eq_self_iff_true, zag])
    case hl => (simp only [zam, zaq]; decide))
 | ((first | refine s1_id ?_ | refine swp_id ?_ | refine sops_id ?_ | refine s2_id ?_); simp only [lendS, dice, zaH, zaI, zag, zaJ, zaL, zaE, zaF, zaA, zaM, zaP, zam, zaq, go_sem, zaa, zan, zao, zap, zar, zai, ↓reduceIte, reduceCtorEq, zaf, zah, zaj, zas, zat, zaQ, zaN, zaD, zaO, renO, bk, back, outUpsFrom, Ints_ren])
 | (intros; omega)
 | (intros; (try simp only [zaC, zaG, zaz, zay, zau, zav, decide_eq_true_eq, decide_eq_false_iff_not] at *); omega))
    (refine fs_flat [(0, dice D j2)] (by simp) (by simp only [zac, zad]; decide) (by simp only [go_sem, resV, resS, zaQ, zaN, zaD, zaU, zaR, idx, renO, zaO, evS, slot, lookR, zaa, ↓reduceIte, reduceCtorEq, if_true, if_false, zaw, zax, zac, zad, sLoad, readAt, readNeed, Ints_ren, Ints_length, Ints_getD, and_true, true_and, zak, zal]; try decide) ?_ (by simp only [zab, zae, false_implies, implies_true, and_true, zaR, lookR, zaa, if_true, if_false, ↓reduceIte, dice] <;> (repeat' apply zaB) <;> (first | rfl | trivial)) (by simp only [zab, zae, false_implies, implies_true, and_true, true_and, flat_cons, flat_nil, flat_ints, flat_bools, flat_app, zaK, and_self, eq_self_iff_true, zag, dice]) ?_ <;> (try simp only [go_sem, resV, resS, zaQ, zaN, zaD, zaU, zaR, idx, renO, zaO, evS, slot, lookR, zaa, ↓reduceIte, reduceCtorEq, if_true, if_false, zaw, zax, zac, zad, sLoad, readAt, readNeed, Ints_ren, Ints_length, Ints_getD, and_true, true_and, zak, zal]) <;> (try rfl))
  · have n2 := next_spec D j1 5 hl hr (by decide)
    have r2 := nxV_rng D j1 5 (by decide)
    simp only [odK, if_pos, if_neg, zaj, if_false, if_true, ↓reduceIte]
    generalize nxV D j1 5 = u at *
    generalize nxA D j1 5 = j2 at *
    refine fnspec_of mixed TT_ok TT_cl ⟨fun _ => false, lendS, 1, fun _ => false, fun _ => false⟩ Try.func27 rfl (by kernel_rfl) rfl 91 rfl [.cell 4 47] rfl ?_
    simp only [go_sem, zaa, zan, zao, zap, zar, zai, ↓reduceIte, reduceCtorEq, zaf, zah, zaj, zas, zat, lendS]
    repeat' (first
 | with_reducible refine zaB ?_ ?_
 | (apply cl_plain
    case hs => rfl
    case ha => (simp only [zac, zad, prepV, prepC, idx, hpL', lookR, zaa, if_true, if_false]; rfl)
    case h => (first | exact a1 .. | exact n1 .. | exact n2 ..))
 | (apply cl_lend
    case hr => (simp only [zac, zad, hpL', lookR, zaa, if_true, if_false]; first | exact map1 _ | exact map2 _ _ | exact map3 _ _ _)
    case ha => (simp only [zac, zad, prepV, prepC, idx, hpL', lookR, zaa, if_true, if_false]; rfl)
    case hs => rfl
    case hn => decide
    case h => (first | exact a1 .. | exact n1 .. | exact n2 ..)
    case hf => (simp only [zab, zae, false_implies, implies_true, and_true, true_and, flat_cons, flat_nil, flat_ints, flat_bools, flat_app, Cs_flat, zaK, and_self, eq_self_iff_true, zag])
    case hl => (simp only [zam, zaq]; decide))
 | ((first | refine s1_id ?_ | refine swp_id ?_ | refine sops_id ?_ | refine s2_id ?_); simp only [lendS, dice, zaH, zaI, zag, zaJ, zaL, zaE, zaF, zaA, zaM, zaP, zam, zaq, go_sem, zaa, zan, zao, zap, zar, zai, ↓reduceIte, reduceCtorEq, zaf, zah, zaj, zas, zat, zaQ, zaN, zaD, zaO, renO, bk, back, outUpsFrom, Ints_ren])
 | (intros; omega)
 | (intros; (try simp only [zaC, zaG, zaz, zay, zau, zav, decide_eq_true_eq, decide_eq_false_iff_not] at *); omega))
    (refine fs_flat [(0, dice D j2)] (by simp) (by simp only [zac, zad]; decide) (by simp only [go_sem, resV, resS, zaQ, zaN, zaD, zaU, zaR, idx, renO, zaO, evS, slot, lookR, zaa, ↓reduceIte, reduceCtorEq, if_true, if_false, zaw, zax, zac, zad, sLoad, readAt, readNeed, Ints_ren, Ints_length, Ints_getD, and_true, true_and, zak, zal]; try decide) ?_ (by simp only [zab, zae, false_implies, implies_true, and_true, zaR, lookR, zaa, if_true, if_false, ↓reduceIte, dice] <;> (repeat' apply zaB) <;> (first | rfl | trivial)) (by simp only [zab, zae, false_implies, implies_true, and_true, true_and, flat_cons, flat_nil, flat_ints, flat_bools, flat_app, zaK, and_self, eq_self_iff_true, zag, dice]) ?_ <;> (try simp only [go_sem, resV, resS, zaQ, zaN, zaD, zaU, zaR, idx, renO, zaO, evS, slot, lookR, zaa, ↓reduceIte, reduceCtorEq, if_true, if_false, zaw, zax, zac, zad, sLoad, readAt, readNeed, Ints_ren, Ints_length, Ints_getD, and_true, true_and, zak, zal]) <;> (try rfl))
  · have n2 := next_spec D j1 4 hl hr (by decide)
    have r2 := nxV_rng D j1 4 (by decide)
    simp only [odK, if_pos, if_neg, zaj, if_false, if_true, ↓reduceIte]
    generalize nxV D j1 4 = u at *
    generalize nxA D j1 4 = j2 at *
    refine fnspec_of mixed TT_ok TT_cl ⟨fun _ => false, lendS, 1, fun _ => false, fun _ => false⟩ Try.func27 rfl (by kernel_rfl) rfl 91 rfl [.cell 4 47] rfl ?_
    simp only [go_sem, zaa, zan, zao, zap, zar, zai, ↓reduceIte, reduceCtorEq, zaf, zah, zaj, zas, zat, lendS]
    repeat' (first
 | with_reducible refine zaB ?_ ?_
 | (apply cl_plain
    case hs => rfl
    case ha => (simp only [zac, zad, prepV, prepC, idx, hpL', lookR, zaa, if_true, if_false]; rfl)
    case h => (first | exact a1 .. | exact n1 .. | exact n2 ..))
 | (apply cl_lend
    case hr => (simp only [zac, zad, hpL', lookR, zaa, if_true, if_false]; first | exact map1 _ | exact map2 _ _ | exact map3 _ _ _)
    case ha => (simp only [zac, zad, prepV, prepC, idx, hpL', lookR, zaa, if_true, if_false]; rfl)
    case hs => rfl
    case hn => decide
    case h => (first | exact a1 .. | exact n1 .. | exact n2 ..)
    case hf => (simp only [zab, zae, false_implies, implies_true, and_true, true_and, flat_cons, flat_nil, flat_ints, flat_bools, flat_app, Cs_flat, zaK, and_self, eq_self_iff_true, zag])
    case hl => (simp only [zam, zaq]; decide))
 | ((first | refine s1_id ?_ | refine swp_id ?_ | refine sops_id ?_ | refine s2_id ?_); simp only [lendS, dice, zaH, zaI, zag, zaJ, zaL, zaE, zaF, zaA, zaM, zaP, zam, zaq, go_sem, zaa, zan, zao, zap, zar, zai, ↓reduceIte, reduceCtorEq, zaf, zah, zaj, zas, zat, zaQ, zaN, zaD, zaO, renO, bk, back, outUpsFrom, Ints_ren])
 | (intros; omega)
 | (intros; (try simp only [zaC, zaG, zaz, zay, zau, zav, decide_eq_true_eq, decide_eq_false_iff_not] at *); omega))
    (refine fs_flat [(0, dice D j2)] (by simp) (by simp only [zac, zad]; decide) (by simp only [go_sem, resV, resS, zaQ, zaN, zaD, zaU, zaR, idx, renO, zaO, evS, slot, lookR, zaa, ↓reduceIte, reduceCtorEq, if_true, if_false, zaw, zax, zac, zad, sLoad, readAt, readNeed, Ints_ren, Ints_length, Ints_getD, and_true, true_and, zak, zal]; try decide) ?_ (by simp only [zab, zae, false_implies, implies_true, and_true, zaR, lookR, zaa, if_true, if_false, ↓reduceIte, dice] <;> (repeat' apply zaB) <;> (first | rfl | trivial)) (by simp only [zab, zae, false_implies, implies_true, and_true, true_and, flat_cons, flat_nil, flat_ints, flat_bools, flat_app, zaK, and_self, eq_self_iff_true, zag, dice]) ?_ <;> (try simp only [go_sem, resV, resS, zaQ, zaN, zaD, zaU, zaR, idx, renO, zaO, evS, slot, lookR, zaa, ↓reduceIte, reduceCtorEq, if_true, if_false, zaw, zax, zac, zad, sLoad, readAt, readNeed, Ints_ren, Ints_length, Ints_getD, and_true, true_and, zak, zal]) <;> (try rfl))
  · have n2 := next_spec D j1 12 hl hr (by decide)
    have r2 := nxV_rng D j1 12 (by decide)
    simp only [odK, if_pos, if_neg, zaj, if_false, if_true, ↓reduceIte]
    generalize nxV D j1 12 = u at *
    generalize nxA D j1 12 = j2 at *
    refine fnspec_of mixed TT_ok TT_cl ⟨fun _ => false, lendS, 1, fun _ => false, fun _ => false⟩ Try.func27 rfl (by kernel_rfl) rfl 91 rfl [.cell 4 47] rfl ?_
    simp only [go_sem, zaa, zan, zao, zap, zar, zai, ↓reduceIte, reduceCtorEq, zaf, zah, zaj, zas, zat, lendS]
    repeat' (first
 | with_reducible refine zaB ?_ ?_
 | (apply cl_plain
    case hs => rfl
    case ha => (simp only [zac, zad, prepV, prepC, idx, hpL', lookR, zaa, if_true, if_false]; rfl)
    case h => (first | exact a1 .. | exact n1 .. | exact n2 ..))
 | (apply cl_lend
    case hr => (simp only [zac, zad, hpL', lookR, zaa, if_true, if_false]; first | exact map1 _ | exact map2 _ _ | exact map3 _ _ _)
    case ha => (simp only [zac, zad, prepV, prepC, idx, hpL', lookR, zaa, if_true, if_false]; rfl)
    case hs => rfl
    case hn => decide
    case h => (first | exact a1 .. | exact n1 .. | exact n2 ..)
    case hf => (simp only [zab, zae, false_implies, implies_true, and_true, true_and, flat_cons, flat_nil, flat_ints, flat_bools, flat_app, Cs_flat, zaK, and_self, eq_self_iff_true, zag])
    case hl => (simp only [zam, zaq]; decide))
 | ((first | refine s1_id ?_ | refine swp_id ?_ | refine sops_id ?_ | refine s2_id ?_); simp only [lendS, dice, zaH, zaI, zag, zaJ, zaL, zaE, zaF, zaA, zaM, zaP, zam, zaq, go_sem, zaa, zan, zao, zap, zar, zai, ↓reduceIte, reduceCtorEq, zaf, zah, zaj, zas, zat, zaQ, zaN, zaD, zaO, renO, bk, back, outUpsFrom, Ints_ren])
 | (intros; omega)
 | (intros; (try simp only [zaC, zaG, zaz, zay, zau, zav, decide_eq_true_eq, decide_eq_false_iff_not] at *); omega))
    (refine fs_flat [(0, dice D j2)] (by simp) (by simp only [zac, zad]; decide) (by simp only [go_sem, resV, resS, zaQ, zaN, zaD, zaU, zaR, idx, renO, zaO, evS, slot, lookR, zaa, ↓reduceIte, reduceCtorEq, if_true, if_false, zaw, zax, zac, zad, sLoad, readAt, readNeed, Ints_ren, Ints_length, Ints_getD, and_true, true_and, zak, zal]; try decide) ?_ (by simp only [zab, zae, false_implies, implies_true, and_true, zaR, lookR, zaa, if_true, if_false, ↓reduceIte, dice] <;> (repeat' apply zaB) <;> (first | rfl | trivial)) (by simp only [zab, zae, false_implies, implies_true, and_true, true_and, flat_cons, flat_nil, flat_ints, flat_bools, flat_app, zaK, and_self, eq_self_iff_true, zag, dice]) ?_ <;> (try simp only [go_sem, resV, resS, zaQ, zaN, zaD, zaU, zaR, idx, renO, zaO, evS, slot, lookR, zaa, ↓reduceIte, reduceCtorEq, if_true, if_false, zaw, zax, zac, zad, sLoad, readAt, readNeed, Ints_ren, Ints_length, Ints_getD, and_true, true_and, zak, zal]) <;> (try rfl))
  · have n2 := next_spec D j1 4 hl hr (by decide)
    have r2 := nxV_rng D j1 4 (by decide)
    simp only [odK, if_pos, if_neg, zaj, if_false, if_true, ↓reduceIte]
    generalize nxV D j1 4 = u at *
    generalize nxA D j1 4 = j2 at *
    refine fnspec_of mixed TT_ok TT_cl ⟨fun _ => false, lendS, 1, fun _ => false, fun _ => false⟩ Try.func27 rfl (by kernel_rfl) rfl 91 rfl [.cell 4 47] rfl ?_
    simp only [go_sem, zaa, zan, zao, zap, zar, zai, ↓reduceIte, reduceCtorEq, zaf, zah, zaj, zas, zat, lendS]
    repeat' (first
 | with_reducible refine zaB ?_ ?_
 | (apply cl_plain
    case hs => rfl
    case ha => (simp only [zac, zad, prepV, prepC, idx, hpL', lookR, zaa, if_true, if_false]; rfl)
    case h => (first | exact a1 .. | exact n1 .. | exact n2 ..))
 | (apply cl_lend
    case hr => (simp only [zac, zad, hpL', lookR, zaa, if_true, if_false]; first | exact map1 _ | exact map2 _ _ | exact map3 _ _ _)
    case ha => (simp only [zac, zad, prepV, prepC, idx, hpL', lookR, zaa, if_true, if_false]; rfl)
    case hs => rfl
    case hn => decide
    case h => (first | exact a1 .. | exact n1 .. | exact n2 ..)
    case hf => (simp only [zab, zae, false_implies, implies_true, and_true, true_and, flat_cons, flat_nil, flat_ints, flat_bools, flat_app, Cs_flat, zaK, and_self, eq_self_iff_true, zag])
    case hl => (simp only [zam, zaq]; decide))
 | ((first | refine s1_id ?_ | refine swp_id ?_ | refine sops_id ?_ | refine s2_id ?_); simp only [lendS, dice, zaH, zaI, zag, zaJ, zaL, zaE, zaF, zaA, zaM, zaP, zam, zaq, go_sem, zaa, zan, zao, zap, zar, zai, ↓reduceIte, reduceCtorEq, zaf, zah, zaj, zas, zat, zaQ, zaN, zaD, zaO, renO, bk, back, outUpsFrom, Ints_ren])
 | (intros; omega)
 | (intros; (try simp only [zaC, zaG, zaz, zay, zau, zav, decide_eq_true_eq, decide_eq_false_iff_not] at *); omega))
    (refine fs_flat [(0, dice D j2)] (by simp) (by simp only [zac, zad]; decide) (by simp only [go_sem, resV, resS, zaQ, zaN, zaD, zaU, zaR, idx, renO, zaO, evS, slot, lookR, zaa, ↓reduceIte, reduceCtorEq, if_true, if_false, zaw, zax, zac, zad, sLoad, readAt, readNeed, Ints_ren, Ints_length, Ints_getD, and_true, true_and, zak, zal]; try decide) ?_ (by simp only [zab, zae, false_implies, implies_true, and_true, zaR, lookR, zaa, if_true, if_false, ↓reduceIte, dice] <;> (repeat' apply zaB) <;> (first | rfl | trivial)) (by simp only [zab, zae, false_implies, implies_true, and_true, true_and, flat_cons, flat_nil, flat_ints, flat_bools, flat_app, zaK, and_self, eq_self_iff_true, zag, dice]) ?_ <;> (try simp only [go_sem, resV, resS, zaQ, zaN, zaD, zaU, zaR, idx, renO, zaO, evS, slot, lookR, zaa, ↓reduceIte, reduceCtorEq, if_true, if_false, zaw, zax, zac, zad, sLoad, readAt, readNeed, Ints_ren, Ints_length, Ints_getD, and_true, true_and, zak, zal]) <;> (try rfl))
  · have n2 := next_spec D j1 4 hl hr (by decide)
    have r2 := nxV_rng D j1 4 (by decide)
    simp only [odK, if_pos, if_neg, zaj, if_false, if_true, ↓reduceIte]
    generalize nxV D j1 4 = u at *
    generalize nxA D j1 4 = j2 at *
    refine fnspec_of mixed TT_ok TT_cl ⟨fun _ => false, lendS, 1, fun _ => false, fun _ => false⟩ Try.func27 rfl (by kernel_rfl) rfl 91 rfl [.cell 4 47] rfl ?_
    simp only [go_sem, zaa, zan, zao, zap, zar, zai, ↓reduceIte, reduceCtorEq, zaf, zah, zaj, zas, zat, lendS]
    repeat' (first
 | with_reducible refine zaB ?_ ?_
 | (apply cl_plain
    case hs => rfl
    case ha => (simp only [zac, zad, prepV, prepC, idx, hpL', lookR, zaa, if_true, if_false]; rfl)
    case h => (first | exact a1 .. | exact n1 .. | exact n2 ..))
 | (apply cl_lend
    case hr => (simp only [zac, zad, hpL', lookR, zaa, if_true, if_false]; first | exact map1 _ | exact map2 _ _ | exact map3 _ _ _)
    case ha => (simp only [zac, zad, prepV, prepC, idx, hpL', lookR, zaa, if_true, if_false]; rfl)
    case hs => rfl
    case hn => decide
    case h => (first | exact a1 .. | exact n1 .. | exact n2 ..)
    case hf => (simp only [zab, zae, false_implies, implies_true, and_true, true_and, flat_cons, flat_nil, flat_ints, flat_bools, flat_app, Cs_flat, zaK, and_self, eq_self_iff_true, zag])
    case hl => (simp only [zam, zaq]; decide))
 | ((first | refine s1_id ?_ | refine swp_id ?_ | refine sops_id ?_ | refine s2_id ?_); simp only [lendS, dice, zaH, zaI, zag, zaJ, zaL, zaE, zaF, zaA, zaM, zaP, zam, zaq, go_sem, zaa, zan, zao, zap, zar, zai, ↓reduceIte, reduceCtorEq, zaf, zah, zaj, zas, zat, zaQ, zaN, zaD, zaO, renO, bk, back, outUpsFrom, Ints_ren])
 | (intros; omega)
 | (intros; (try simp only [zaC, zaG, zaz, zay, zau, zav, decide_eq_true_eq, decide_eq_false_iff_not] at *); omega))
    (refine fs_flat [(0, dice D j2)] (by simp) (by simp only [zac, zad]; decide) (by simp only [go_sem, resV, resS, zaQ, zaN, zaD, zaU, zaR, idx, renO, zaO, evS, slot, lookR, zaa, ↓reduceIte, reduceCtorEq, if_true, if_false, zaw, zax, zac, zad, sLoad, readAt, readNeed, Ints_ren, Ints_length, Ints_getD, and_true, true_and, zak, zal]; try decide) ?_ (by simp only [zab, zae, false_implies, implies_true, and_true, zaR, lookR, zaa, if_true, if_false, ↓reduceIte, dice] <;> (repeat' apply zaB) <;> (first | rfl | trivial)) (by simp only [zab, zae, false_implies, implies_true, and_true, true_and, flat_cons, flat_nil, flat_ints, flat_bools, flat_app, zaK, and_self, eq_self_iff_true, zag, dice]) ?_ <;> (try simp only [go_sem, resV, resS, zaQ, zaN, zaD, zaU, zaR, idx, renO, zaO, evS, slot, lookR, zaa, ↓reduceIte, reduceCtorEq, if_true, if_false, zaw, zax, zac, zad, sLoad, readAt, readNeed, Ints_ren, Ints_length, Ints_getD, and_true, true_and, zak, zal]) <;> (try rfl))
  · have n2 := dset_own D j1 6 (by decide) hl hr
    have l2 := dSet_len D j1 6
    simp only [odK, if_pos, if_neg, zaj, if_false, if_true, ↓reduceIte]
    generalize dSet D j1 6 = S at *
    obtain ⟨A, j2⟩ := S
    simp only at n2 l2 ⊢
    have n3 := next_spec D j2 20 hl hr (by decide)
    have r3 := nxV_rng D j2 20 (by decide)
    generalize nxV D j2 20 = u at *
    generalize nxA D j2 20 = j3 at *
    have htk : List.take A.length (Ints A) = Ints A := zaV (by rw [Ints_length]; exact Nat.le_refl _)
    have hpp : Ints A ++ [int (u - 1)] = Ints (A ++ [u - 1]) := by simp [Ints]
    have hla : (A ++ [u - 1]).length = A.length + 1 := by simp
    simp only [hla]
    refine fnspec_of mixed TT_ok TT_cl ⟨fun _ => false, lendS, 1, fun _ => false, fun _ => false⟩ Try.func27 rfl (by kernel_rfl) rfl 91 rfl [.cell 4 47] rfl ?_
    simp only [go_sem, zaa, zan, zao, zap, zar, zai, ↓reduceIte, reduceCtorEq, zaf, zah, zaj, zas, zat, lendS]
    repeat' (first
 | with_reducible refine zaB ?_ ?_
 | (apply cl_plain
    case hs => rfl
    case ha => (simp only [zac, zad, prepV, prepC, idx, hpL', lookR, zaa, if_true, if_false]; rfl)
    case h => (first | exact a1 .. | exact n1 .. | exact n2 .. | exact n3 ..))
 | (apply cl_lend
    case hr => (simp only [zac, zad, hpL', lookR, zaa, if_true, if_false]; first | exact map1 _ | exact map2 _ _ | exact map3 _ _ _)
    case ha => (simp only [zac, zad, prepV, prepC, idx, hpL', lookR, zaa, if_true, if_false]; rfl)
    case hs => rfl
    case hn => decide
    case h => (first | exact a1 .. | exact n1 .. | exact n2 .. | exact n3 ..)
    case hf => (simp only [zab, zae, false_implies, implies_true, and_true, true_and, flat_cons, flat_nil, flat_ints, flat_bools, flat_app, Cs_flat, zaK, and_self, eq_self_iff_true, zag])
    case hl => (simp only [zam, zaq]; decide))
 | ((first | refine s1_id ?_ | refine swp_id ?_ | refine sops_id ?_ | refine s2_id ?_); simp only [lendS, dice, htk, hpp, zaH, zaI, zag, zaJ, zaL, zaE, zaF, zaA, zaM, zaP, zam, zaq, go_sem, zaa, zan, zao, zap, zar, zai, ↓reduceIte, reduceCtorEq, zaf, zah, zaj, zas, zat, zaQ, zaN, zaD, zaO, renO, bk, back, outUpsFrom, Ints_ren])
 | (intros; omega)
 | (intros; (try simp only [zaC, zaG, zaz, zay, zau, zav, decide_eq_true_eq, decide_eq_false_iff_not] at *); omega))
    (refine fs_frz 31 ⟨Ints (A ++ [u - 1]), 1⟩ (by simp only [zaR, lookR, zaa, if_true, if_false, ↓reduceIte]) (by first | exact Ints_isG _ | exact Bools_isG _ | exact Cs_isG _ | (simp [Cell.isG]; done)) ?_; simp only [frzTm, SV.frz, SV.frzL, Cell.frz, frzHp, frzO, Ints_frz, Bools_frz, zac, zad, zaa, if_true, if_false, ↓reduceIte])
    (refine fs_flat [(0, dice D j3)] (by simp) (by simp only [zac, zad]; decide) (by simp only [go_sem, resV, resS, zaQ, zaN, zaD, zaU, zaR, idx, renO, zaO, evS, slot, lookR, zaa, ↓reduceIte, reduceCtorEq, if_true, if_false, zaw, zax, zac, zad, sLoad, readAt, readNeed, Ints_ren, Ints_length, Ints_getD, and_true, true_and, zak, zal]; try decide) ?_ (by simp only [zab, zae, false_implies, implies_true, and_true, zaR, lookR, zaa, if_true, if_false, ↓reduceIte, dice] <;> (repeat' apply zaB) <;> (first | rfl | trivial)) (by simp only [zab, zae, false_implies, implies_true, and_true, true_and, flat_cons, flat_nil, flat_ints, flat_bools, flat_app, zaK, and_self, eq_self_iff_true, zag, dice]) ?_ <;> (try simp only [go_sem, resV, resS, zaQ, zaN, zaD, zaU, zaR, idx, renO, zaO, evS, slot, lookR, zaa, ↓reduceIte, reduceCtorEq, if_true, if_false, zaw, zax, zac, zad, sLoad, readAt, readNeed, Ints_ren, Ints_length, Ints_getD, and_true, true_and, zak, zal]) <;> (try rfl))
  · have n2 := dset_own D j1 4 (by decide) hl hr
    have l2 := dSet_len D j1 4
    simp only [odK, if_pos, if_neg, zaj, if_false, if_true, ↓reduceIte]
    generalize dSet D j1 4 = S at *
    obtain ⟨A, j2⟩ := S
    simp only at n2 l2 ⊢
    have n3 := next_spec D j2 12 hl hr (by decide)
    have r3 := nxV_rng D j2 12 (by decide)
    generalize nxV D j2 12 = u at *
    generalize nxA D j2 12 = j3 at *
    have htk : List.take A.length (Ints A) = Ints A := zaV (by rw [Ints_length]; exact Nat.le_refl _)
    have hpp : Ints A ++ [int (u - 1)] = Ints (A ++ [u - 1]) := by simp [Ints]
    have hla : (A ++ [u - 1]).length = A.length + 1 := by simp
    simp only [hla]
    refine fnspec_of mixed TT_ok TT_cl ⟨fun _ => false, lendS, 1, fun _ => false, fun _ => false⟩ Try.func27 rfl (by kernel_rfl) rfl 91 rfl [.cell 4 47] rfl ?_
    simp only [go_sem, zaa, zan, zao, zap, zar, zai, ↓reduceIte, reduceCtorEq, zaf, zah, zaj, zas, zat, lendS]
    repeat' (first
 | with_reducible refine zaB ?_ ?_
 | (apply cl_plain
    case hs => rfl
    case ha => (simp only [zac, zad, prepV, prepC, idx, hpL', lookR, zaa, if_true, if_false]; rfl)
    case h => (first | exact a1 .. | exact n1 .. | exact n2 .. | exact n3 ..))
 | (apply cl_lend
    case hr => (simp only [zac, zad, hpL', lookR, zaa, if_true, if_false]; first | exact map1 _ | exact map2 _ _ | exact map3 _ _ _)
    case ha => (simp only [zac, zad, prepV, prepC, idx, hpL', lookR, zaa, if_true, if_false]; rfl)
    case hs => rfl
    case hn => decide
    case h => (first | exact a1 .. | exact n1 .. | exact n2 .. | exact n3 ..)
    case hf => (simp only [zab, zae, false_implies, implies_true, and_true, true_and, flat_cons, flat_nil, flat_ints, flat_bools, flat_app, Cs_flat, zaK, and_self, eq_self_iff_true, zag])
    case hl => (simp only [zam, zaq]; decide))
 | ((first | refine s1_id ?_ | refine swp_id ?_ | refine sops_id ?_ | refine s2_id ?_); simp only [lendS, dice, htk, hpp, zaH, zaI, zag, zaJ, zaL, zaE, zaF, zaA, zaM, zaP, zam, zaq, go_sem, zaa, zan, zao, zap, zar, zai, ↓reduceIte, reduceCtorEq, zaf, zah, zaj, zas, zat, zaQ, zaN, zaD, zaO, renO, bk, back, outUpsFrom, Ints_ren])
 | (intros; omega)
 | (intros; (try simp only [zaC, zaG, zaz, zay, zau, zav, decide_eq_true_eq, decide_eq_false_iff_not] at *); omega))
    (refine fs_frz 33 ⟨Ints (A ++ [u - 1]), 1⟩ (by simp only [zaR, lookR, zaa, if_true, if_false, ↓reduceIte]) (by first | exact Ints_isG _ | exact Bools_isG _ | exact Cs_isG _ | (simp [Cell.isG]; done)) ?_; simp only [frzTm, SV.frz, SV.frzL, Cell.frz, frzHp, frzO, Ints_frz, Bools_frz, zac, zad, zaa, if_true, if_false, ↓reduceIte])
    (refine fs_flat [(0, dice D j3)] (by simp) (by simp only [zac, zad]; decide) (by simp only [go_sem, resV, resS, zaQ, zaN, zaD, zaU, zaR, idx, renO, zaO, evS, slot, lookR, zaa, ↓reduceIte, reduceCtorEq, if_true, if_false, zaw, zax, zac, zad, sLoad, readAt, readNeed, Ints_ren, Ints_length, Ints_getD, and_true, true_and, zak, zal]; try decide) ?_ (by simp only [zab, zae, false_implies, implies_true, and_true, zaR, lookR, zaa, if_true, if_false, ↓reduceIte, dice] <;> (repeat' apply zaB) <;> (first | rfl | trivial)) (by simp only [zab, zae, false_implies, implies_true, and_true, true_and, flat_cons, flat_nil, flat_ints, flat_bools, flat_app, zaK, and_self, eq_self_iff_true, zag, dice]) ?_ <;> (try simp only [go_sem, resV, resS, zaQ, zaN, zaD, zaU, zaR, idx, renO, zaO, evS, slot, lookR, zaa, ↓reduceIte, reduceCtorEq, if_true, if_false, zaw, zax, zac, zad, sLoad, readAt, readNeed, Ints_ren, Ints_length, Ints_getD, and_true, true_and, zak, zal]) <;> (try rfl))
  · have n2 := next_spec D j1 4 hl hr (by decide)
    have r2 := nxV_rng D j1 4 (by decide)
    simp only [odK, if_pos, if_neg, zaj, if_false, if_true, ↓reduceIte]
    generalize nxV D j1 4 = u at *
    generalize nxA D j1 4 = j2 at *
    refine fnspec_of mixed TT_ok TT_cl ⟨fun _ => false, lendS, 1, fun _ => false, fun _ => false⟩ Try.func27 rfl (by kernel_rfl) rfl 91 rfl [.cell 4 47] rfl ?_
    simp only [go_sem, zaa, zan, zao, zap, zar, zai, ↓reduceIte, reduceCtorEq, zaf, zah, zaj, zas, zat, lendS]
    repeat' (first
 | with_reducible refine zaB ?_ ?_
 | (apply cl_plain
    case hs => rfl
    case ha => (simp only [zac, zad, prepV, prepC, idx, hpL', lookR, zaa, if_true, if_false]; rfl)
    case h => (first | exact a1 .. | exact n1 .. | exact n2 ..))
 | (apply cl_lend
    case hr => (simp only [zac, zad, hpL', lookR, zaa, if_true, if_false]; first | exact map1 _ | exact map2 _ _ | exact map3 _ _ _)
    case ha => (simp only [zac, zad, prepV, prepC, idx, hpL', lookR, zaa, if_true, if_false]; rfl)
    case hs => rfl
    case hn => decide
    case h => (first | exact a1 .. | exact n1 .. | exact n2 ..)
    case hf => (simp only [zab, zae, false_implies, implies_true, and_true, true_and, flat_cons, flat_nil, flat_ints, flat_bools, flat_app, Cs_flat, zaK, and_self, eq_self_iff_true, zag])
    case hl => (simp only [zam, zaq]; decide))
 | ((first | refine s1_id ?_ | refine swp_id ?_ | refine sops_id ?_ | refine s2_id ?_); simp only [lendS, dice, zaH, zaI, zag, zaJ, zaL, zaE, zaF, zaA, zaM, zaP, zam, zaq, go_sem, zaa, zan, zao, zap, zar, zai, ↓reduceIte, reduceCtorEq, zaf, zah, zaj, zas, zat, zaQ, zaN, zaD, zaO, renO, bk, back, outUpsFrom, Ints_ren])
 | (intros; omega)
 | (intros; (try simp only [zaC, zaG, zaz, zay, zau, zav, decide_eq_true_eq, decide_eq_false_iff_not] at *); omega))
    (refine fs_flat [(0, dice D j2)] (by simp) (by simp only [zac, zad]; decide) (by simp only [go_sem, resV, resS, zaQ, zaN, zaD, zaU, zaR, idx, renO, zaO, evS, slot, lookR, zaa, ↓reduceIte, reduceCtorEq, if_true, if_false, zaw, zax, zac, zad, sLoad, readAt, readNeed, Ints_ren, Ints_length, Ints_getD, and_true, true_and, zak, zal]; try decide) ?_ (by simp only [zab, zae, false_implies, implies_true, and_true, zaR, lookR, zaa, if_true, if_false, ↓reduceIte, dice] <;> (repeat' apply zaB) <;> (first | rfl | trivial)) (by simp only [zab, zae, false_implies, implies_true, and_true, true_and, flat_cons, flat_nil, flat_ints, flat_bools, flat_app, zaK, and_self, eq_self_iff_true, zag, dice]) ?_ <;> (try simp only [go_sem, resV, resS, zaQ, zaN, zaD, zaU, zaR, idx, renO, zaO, evS, slot, lookR, zaa, ↓reduceIte, reduceCtorEq, if_true, if_false, zaw, zax, zac, zad, sLoad, readAt, readNeed, Ints_ren, Ints_length, Ints_getD, and_true, true_and, zak, zal]) <;> (try rfl))
end Go.Proofs.Ytcnilpdlcmpbbab
-- NEWGO
-- PRUNE: cl_lendx cl_use
-- ISG: Cs_isG
-- FLAT: Cs_flat
namespace Go.Proofs.Ytcnilpdlcmpbbab
set_option linter.unusedVariables false
set_option linter.unusedSimpArgs false
open Go.Proofs.Ytcnilpdlcmpbbab.Sh
set_option maxRecDepth 20000
theorem stw_ts : TW.ts = TT.ts := rfl
theorem swr64 {n : Int} (h : -9223372036854775808 ≤ n ∧ n ≤ 9223372036854775807) : IntKind.i64.wrap n = n := wrap_in ⟨by simp only [IntKind.min]; exact h.1, by simp only [IntKind.max]; exact h.2⟩
instance : Rec Sg := ⟨sgc, 17, zsg, fun _ => rfl, fun x c h => by
  simp only [sgc, List.mem_cons, zae, or_false] at h
  rcases h with rfl | rfl | rfl | rfl | rfl | rfl | rfl | rfl | rfl | rfl | rfl | rfl | rfl | rfl | rfl | rfl | rfl <;> rfl⟩
abbrev gSg (l : List Sg) (i : Nat) : Sg := l.getD i zsg
def GWL : List Cell → List Cell → Prop
  | [], [] => True
  | x :: xs, y :: ys => (∀ m v, VG m x v → VG m y v) ∧ GWL xs ys
  | _, _ => False
theorem GWL.refl : ∀ (l : List Cell), GWL l l
  | [] => trivial
  | _ :: l => ⟨fun _ _ h => h, GWL.refl l⟩
theorem GWL.app {c d : List Cell} (h2 : GWL c d) : ∀ {a b : List Cell}, GWL a b → GWL (a ++ c) (b ++ d)
  | [], [], _ => h2
  | _ :: _, _ :: _, h => ⟨h.1, GWL.app h2 h.2⟩
theorem GWL.at : ∀ {a b : List Cell}, GWL a b → ∀ (i : Nat) y, b[i]? = some y → ∃ x, a[i]? = some x ∧ ∀ m v, VG m x v → VG m y v
  | _, [], _, _, _, hy => by cases hy
  | [], _ :: _, h, _, _, _ => h.elim
  | _ :: _, _ :: _, h, 0, y, hy => by cases hy; exact ⟨_, rfl, h.1⟩
  | _ :: _, _ :: _, h, i + 1, y, hy => GWL.at h.2 i y hy
theorem sg_nil (m : Mem) (v : Value) (h : VG m (.sc (.slice none 0 0)) v) : VG m (.gsl [] 0 0 none) v := by
  cases h
  exact .gnil [] 0 none (fun k h => by cases h)
theorem scw_list {cs ds : List Cell} (off len : Nat) (cap : Option Nat) (hw : GWL cs ds) : CW (.gsl cs off len cap) (.gsl ds off len none) := by
  refine ⟨fun m π v hv => ?_, fun _ _ => trivial⟩
  cases hv with
  | gsl _ _ _ _ b o c ad vals hc hlc hm hv ha =>
    exact VG.gsl ds off len none b o c ad vals (fun k h => by cases h) hlc (fun i y hi => by obtain ⟨x, hx, _⟩ := hw.at i y hi; exact hm i x hx) (fun i y hi => by obtain ⟨x, hx, hxy⟩ := hw.at i y hi; exact hxy m _ (hv i x hx)) ha
  | gnil _ _ _ hc => exact VG.gnil ds off none (fun k h => by cases h)
abbrev zc : List Cell := [int 0, int 0, int 0, int 0, int 0, int 0, int 0, .sc (.slice none 0 0), .sc (.slice none 0 0), int 0, int 0, int 0, int 0, int 0, int 0, bool false, .sc (.slice none 0 0)]
theorem zc_w : GWL zc (sgc zsg) := by
  repeat' (first | exact trivial | apply zaB | exact fun _ _ h => h | exact sg_nil)
def lendO : FuncId → List Nat := fun f => if f = 24 then [0] else if f = 27 then [0] else []
set_option maxHeartbeats 64000000 in
theorem checks11_spec (D : List Int) (n : Int) (hr : ∀ x ∈ D, -9223372036854775808 ≤ x ∧ x ≤ 9223372036854775807) : FnSpec Try.prog 5 [gi D none, i1 n] [] (b1 true) [] := by
  by_cases hlen : (D.length : Int) ≤ 600
  case neg =>
    refine fnspec_of mixed TW_ok TW_cl ⟨fun _ => false, lendO, 0, fun _ => false, fun _ => false⟩ Try.func5 rfl (by kernel_rfl) rfl 79 rfl [.tmp 4] rfl ?_
    simp only [wr_l, stw_ts, go_sem, zaa, zan, zao, zap, zar, zai, ↓reduceIte, reduceCtorEq, zaf, zah, zaj, zas, zat, decide_eq_false hlen, lendO]
    repeat' (first
 | (apply cl_plain
    case hs => rfl
    case ha => (simp only [zac, zad, prepV, prepC, idx, hpL', lookR, zaa, if_true, if_false]; rfl)
    case h => (first | exact light_spec .. | exact sgsane_spec ..))
 | ((first | refine s1_id ?_ | refine swp_id ?_ | refine sops_id ?_ | refine s2_id ?_); simp only [wr_l, stw_ts, decide_eq_false hlen, lendO, go_sem, zaa, zan, zao, zap, zar, zai, ↓reduceIte, reduceCtorEq, zaf, zah, zaj, zas, zat, zaQ, zaN, zaD, zaO, renO, bk, back, outUpsFrom, Ints_ren])
 | exact fs_nil trivial rfl
 | fail)
  have hl : D.length ≤ 600 := by omega
  have p1 := dsettings_spec D hl hr 0
  obtain ⟨hs, hsr⟩ := mkS_ok D 0
  generalize mkS D 0 = q at *
  obtain ⟨s, j1⟩ := q
  simp only at p1 hs hsr
  have p2 := oddset_spec D hl hr j1 s hsr
  have h2 := odS_r D j1 hsr
  generalize odS D j1 s = q at *
  obtain ⟨o, j2⟩ := q
  simp only at p2 h2
  have p3 := oddset_spec D hl hr j2 o h2
  have h3 := odS_r D j2 h2
  generalize odS D j2 o = q at *
  obtain ⟨o2, j3⟩ := q
  simp only at p3 h3
  have p4 := srdef_spec
  have p4' := sdef_spec
  generalize hnb : IntKind.i64.wrap (n - 1) = nb
  have p5 := srsame_spec dfS dfS (by decide) (by decide)
  rw [smS_refl] at p5
  have p6 := scheck_spec s hsr.1 hsr.2
  rw [hs] at p6
  obtain ⟨L, hL⟩ : ∃ L : List Sg, L = [s, o, o2, ⟨4611686018427387904, n, n, 100000, nb, 0, n, [], [], 0, 0, 0, 4611686018427387904, 4611686018427387904, 4611686018427387904, false⟩, zsg] := ⟨_, rfl⟩
  have hLr : ∀ x ∈ L, SgR x := by
    rw [hL]
    intro x hx
    simp only [List.mem_cons, zae, or_false] at hx
    rcases hx with rfl | rfl | rfl | rfl | rfl
    · exact hsr
    · exact h2
    · exact h3
    · exact ⟨Nat.zero_le _, Nat.zero_le _⟩
    · exact ⟨by decide, by decide⟩
  have hLl : L.length = 5 := by rw [hL]; rfl
  simp only [sgt, sgc] at p1 p2 p3 p4 p4' p5 p6
  refine fnspec_of mixed TW_ok TW_cl ⟨fun _ => false, lendO, 0, fun _ => false, fun _ => false⟩ Try.func5 rfl (by kernel_rfl) rfl 79 rfl [.tmp 4] rfl ?_
  simp only [wr_l, stw_ts, go_sem, zaa, zan, zao, zap, zar, zai, ↓reduceIte, reduceCtorEq, zaf, zah, zaj, zas, zat, decide_eq_true hlen, lendO]
  repeat' (first
 | with_reducible refine zaB ?_ ?_
 | (unfold OKC; kernel_rfl)
 | (unfold EDG; kernel_rfl)
 | (apply cl_plain
    case hs => rfl
    case ha => (simp only [zac, zad, prepV, prepC, idx, hpL', lookR, zaa, if_true, if_false]; rfl)
    case h => (first | exact light_spec .. | exact roll_spec .. | exact p1 .. | exact p2 .. | exact p3 .. | exact p4 ..))
 | (apply cl_lend
    case hr => (simp only [zac, zad, hpL', lookR, zaa, if_true, if_false]; first | exact map1 _ | exact map2 _ _ | exact map3 _ _ _)
    case ha => (simp only [zac, zad, prepV, prepC, idx, hpL', lookR, zaa, if_true, if_false]; rfl)
    case hs => rfl
    case hn => decide
    case h => (first | exact light_spec .. | exact roll_spec .. | exact p1 .. | exact p2 .. | exact p3 .. | exact p4 ..)
    case hf => (simp only [zab, zae, false_implies, implies_true, and_true, true_and, flat_cons, flat_nil, flat_ints, flat_bools, flat_app, Cs_flat, zaK, and_self, eq_self_iff_true, zag])
    case hl => (simp only [zam, zaq]; decide))
 | ((first | refine s1_id ?_ | refine swp_id ?_ | refine sops_id ?_ | refine s2_id ?_); simp only [wr_l, stw_ts, decide_eq_true hlen, lendO, dice, hnb, zaH, zaI, zag, zaJ, zaL, zaE, zaF, zaA, zaM, zaP, zam, zaq, go_sem, zaa, zan, zao, zap, zar, zai, ↓reduceIte, reduceCtorEq, zaf, zah, zaj, zas, zat, zaQ, zaN, zaD, zaO, renO, bk, back, outUpsFrom, Ints_ren])
 | (intros; (try simp only [zaC, zaG, zaz, zay, zau, zav, decide_eq_true_eq, decide_eq_false_iff_not] at *); omega))
  refine w_loop (ι := Nat) (fun m => ⟨[(6, .one (.optr 0 0)), (39, .one (.gsl (Cs L) 0 5 none)), (40, i1 (5 : Nat)), (41, i1 m)], [(0, some ⟨sgc s, 17⟩)], 1⟩) (fun m => m ≤ 5) (fun m => 5 - m) 0 ?_ (Nat.zero_le _) ?_
  · refine Imp.trans (imp_frz _ _ 39 ⟨sgc s ++ (sgc o ++ (sgc o2 ++ (sgc ⟨4611686018427387904, n, n, 100000, nb, 0, n, [], [], 0, 0, 0, 4611686018427387904, 4611686018427387904, 4611686018427387904, false⟩ ++ zc))), 17⟩ rfl ?_) ?_
    · intro c hc
      simp only [List.mem_append] at hc
      rcases hc with hc | hc | hc | hc | hc
      · exact Rec.g s c hc
      · exact Rec.g o c hc
      · exact Rec.g o2 c hc
      · exact Rec.g (⟨4611686018427387904, n, n, 100000, nb, 0, n, [], [], 0, 0, 0, 4611686018427387904, 4611686018427387904, 4611686018427387904, false⟩ : Sg) c hc
      · simp only [List.mem_cons, zae, or_false] at hc
        rcases hc with rfl | rfl | rfl | rfl | rfl | rfl | rfl | rfl | rfl | rfl | rfl | rfl | rfl | rfl | rfl | rfl | rfl <;> rfl
    have hw : GWL (sgc s ++ (sgc o ++ (sgc o2 ++ (sgc ⟨4611686018427387904, n, n, 100000, nb, 0, n, [], [], 0, 0, 0, 4611686018427387904, 4611686018427387904, 4611686018427387904, false⟩ ++ zc)))) (Cs L) := by
      rw [hL]
      show GWL _ (sgc s ++ (sgc o ++ (sgc o2 ++ (sgc _ ++ (sgc zsg ++ [])))))
      rw [zag]
      exact GWL.app (GWL.app (GWL.app (GWL.app zc_w (GWL.refl _)) (GWL.refl _)) (GWL.refl _)) (GWL.refl _)
    generalize sgc s ++ (sgc o ++ (sgc o2 ++ (sgc ⟨4611686018427387904, n, n, 100000, nb, 0, n, [], [], 0, 0, 0, 4611686018427387904, 4611686018427387904, 4611686018427387904, false⟩ ++ zc))) = K at *
    simp only [frzTm, SV.frz, SV.frzL, Cell.frz, frzHp, frzO, zac, zad, zaa, if_true, if_false, ↓reduceIte]
    refine Imp.trans (t := ⟨[(6, .one (.optr 0 0)), (39, .one (.gsl K 0 5 (some 5))), (40, i1 (5 : Nat)), (41, i1 (0 : Nat))], [(0, some ⟨sgc s, 17⟩)], 1⟩) ?_ (imp_w _ _ _ ?_ rfl (Nat.le_refl _))
    · skip
      (refine imp_ren _ _ _ [(0, 9, ⟨sgc s, 17⟩)] (by simp) (by simp) (by simp) (zaT rfl) ?_ rfl (by simp only [zab, zae, false_implies, implies_true, and_true, zaR, lookR, zaa, if_true, if_false, ↓reduceIte] <;> (repeat' apply zaB) <;> (first | rfl | trivial)) (by simp only [zab, zae, false_implies, implies_true, and_true, true_and, flat_cons, flat_nil, flat_ints, flat_bools, flat_app, zaK, and_self, eq_self_iff_true, zag]); simp only [zac, zad, zab, zae, false_implies, implies_true, and_true, lk, slot, zaQ, zaD, toN, zaa, if_true, if_false, ↓reduceIte, reduceCtorEq])
      all_goals ((repeat' apply zaB) <;> (first | rfl | trivial))
    · intro x hx
      simp only [List.mem_cons, zae, or_false] at hx
      rcases hx with rfl | rfl | rfl | rfl <;> first | exact ⟨_, rfl, SVW.refl _⟩ | exact ⟨_, rfl, svw_of (scw_list _ _ _ hw)⟩
  clear p1 p2 p3 p4 h2 h3
  intro m hm
  simp only at hm ⊢
  rcases Nat.lt_or_ge m 5 with hlt | hge
  case inr =>
    have c : ¬ (m : Int) < ((5 : Nat) : Int) := by omega
    have q1 := srdef_spec
    simp only [sgt, sgc] at q1
    simp only [wr_l, stw_ts, go_sem, zaa, zan, zao, zap, zar, zai, ↓reduceIte, reduceCtorEq, zaf, zah, zaj, zas, zat, decide_eq_false c, lendO]
    repeat' (first
 | with_reducible refine zaB ?_ ?_
 | (unfold EDG; kernel_rfl)
 | (refine gt_if (fun h => ?_) (fun h => ?_) <;> (try simp only [h]))
 | (apply cg_tp
    case hl => rfl
    case ha => (simp only [zac, zad, prepV, prepC, idx, hpL', lookR, zaa, if_true, if_false]; rfl)
    case hs => rfl
    case h => (first | exact q1 .. | exact p4' .. | exact p5 .. | exact p6 .. | exact sgsane_spec ..))
 | (apply cl_plain
    case hs => rfl
    case ha => (simp only [zac, zad, prepV, prepC, idx, hpL', lookR, zaa, if_true, if_false]; rfl)
    case h => (first | exact q1 .. | exact p4' .. | exact p5 .. | exact p6 .. | exact sgsane_spec ..))
 | ((first | refine s1_id ?_ | refine swp_id ?_ | refine sops_id ?_ | refine s2_id ?_); simp only [wr_l, stw_ts, decide_eq_false c, lendO, zaH, zaI, zag, zaJ, zaL, zaE, zaF, zaA, zaM, zaP, zam, zaq, go_sem, zaa, zan, zao, zap, zar, zai, ↓reduceIte, reduceCtorEq, zaf, zah, zaj, zas, zat, zaQ, zaN, zaD, zaO, renO, bk, back, outUpsFrom, Ints_ren])
 | (intros; omega)
 | (intros; (try simp only [zaC, zaG, zaz, zay, zau, zav, decide_eq_true_eq, decide_eq_false_iff_not] at *); omega)
 | exact fs_nil trivial rfl
 | fail)
  have c : (m : Int) < ((5 : Nat) : Int) := by omega
  have hat : List.take 17 (List.drop (m * 17) (Cs L)) = sgc (gSg L m) := Cs_td L m (by omega)
  have hcl : (Cs L).length = L.length * 17 := Cs_len L
  rw [hLl] at hcl
  have hxr : SgR (gSg L m) := hLr _ (getD_mem L m zsg (by omega))
  generalize gSg L m = x at *
  have x1 := scheck_spec x hxr.1 hxr.2
  have x2 := srcheck_spec x hxr.1 hxr.2
  have x3 := ssame_spec s x hsr.1 hsr.2
  have x4 := srsame_spec s x hsr.1 hsr.2
  have x5 := ssame_spec x s hxr.1 hxr.2
  have x6 := srsame_spec x s hxr.1 hxr.2
  generalize ckS x = b1' at *
  generalize smS s x = b2' at *
  generalize smS x s = b3' at *
  have wm : IntKind.i64.wrap ((m : Int) + 1) = (m : Int) + 1 := swr64 (by omega)
  simp only [sgt, sgc] at x1 x2 x3 x4 x5 x6 hat
  simp only [wr_l, stw_ts, go_sem, zaa, zan, zao, zap, zar, zai, ↓reduceIte, reduceCtorEq, zaf, zah, zaj, zas, zat, decide_eq_true c, lendO, wm]
  repeat' (first
 | with_reducible refine zaB ?_ ?_
 | (unfold OKC; kernel_rfl)
 | (unfold EDG; kernel_rfl)
 | (refine gt_if (fun h => ?_) (fun h => ?_) <;> (try simp only [h]))
 | (apply cg_tp
    case hl => rfl
    case ha => (simp only [zac, zad, prepV, prepC, idx, hpL', lookR, zaa, if_true, if_false]; rfl)
    case hs => rfl
    case h => (first | exact x1 .. | exact x2 .. | exact x3 .. | exact x4 .. | exact x5 .. | exact x6 ..))
 | (apply cl_plain
    case hs => rfl
    case ha => (simp only [zac, zad, prepV, prepC, idx, hpL', lookR, zaa, if_true, if_false]; rfl)
    case h => (first | exact x1 .. | exact x2 .. | exact x3 .. | exact x4 .. | exact x5 .. | exact x6 ..))
 | ((first | refine s1_id ?_ | refine swp_id ?_ | refine sops_id ?_ | refine s2_id ?_); simp only [wr_l, stw_ts, decide_eq_true c, hat, beq_self_eq_true, Bool.not_true, lendO, wm, zaH, zaI, zag, zaJ, zaL, zaE, zaF, zaA, zaM, zaP, zam, zaq, go_sem, zaa, zan, zao, zap, zar, zai, ↓reduceIte, reduceCtorEq, zaf, zah, zaj, zas, zat, zaQ, zaN, zaD, zaO, renO, bk, back, outUpsFrom, Ints_ren])
 | (intros; omega)
 | (intros; (try simp only [zaC, zaG, zaz, zay, zau, zav, decide_eq_true_eq, decide_eq_false_iff_not] at *); omega))
  refine le_mk (m + 1) ?_ hlt (by show 5 - (m + 1) < 5 - m; omega)
  (refine imp_ren _ _ _ [(0, 0, ⟨sgc s, 17⟩)] (by simp) (by simp) (by simp) (zaT rfl) ?_ rfl (by simp only [zab, zae, false_implies, implies_true, and_true, zaR, lookR, zaa, if_true, if_false, ↓reduceIte] <;> (repeat' apply zaB) <;> (first | rfl | trivial)) (by simp only [zab, zae, false_implies, implies_true, and_true, true_and, flat_cons, flat_nil, flat_ints, flat_bools, flat_app, zaK, and_self, eq_self_iff_true, zag]); simp only [zac, zad, zab, zae, false_implies, implies_true, and_true, lk, slot, zaQ, zaD, toN, zaa, if_true, if_false, ↓reduceIte, reduceCtorEq])
  all_goals ((repeat' apply zaB) <;> (first | rfl | trivial | (simp only [zaS]; done) | (simp only [zaS]; rfl) | (simp only [zaS]; trivial)))
theorem checks11_main (g0 : List Cell) (s0 : GTy Try.prog 12 22 g0) (g1 : List Cell) (s1 : GTy Try.prog 12 3 g1) : FnSpec Try.prog 5 [svOf Try.prog 22 g0, svOf Try.prog 3 g1] [] (b1 true) [] := by
  obtain ⟨l, rfl, hl, hr⟩ := gty_ints (n := 10) Try.underlying22 Try.underlying3 s0
  obtain ⟨m1, rfl, w1⟩ := gty_int (n := 11) Try.underlying3 s1
  simp only [svOf, Try.underlying22, Try.underlying3, List.headD_cons]
  exact checks11_spec l m1 hr
end Go.Proofs.Ytcnilpdlcmpbbab
