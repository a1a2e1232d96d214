/- Contracts of functions, told of values, on the way to TreeNever (part 5). -/
import Derived.Test.YtnahpejlhfeleaaTreeNeverM3
import Derived.Test.YtnahpejlhfeleaaTreeNeverM4
-- short names of the library's lemmas
open Nat renaming reduceEqDiff → zaa, reduceLeDiff → zad, reduceAdd → zae, reduceSub → zaf, reduceMul → zag, reduceLT → zai, le_of_ble_eq_true → zau, le_refl → zaV
open List renaming reduceReplicate → zab, map_cons → zah, map_nil → zam, append_nil → zav, forall_mem_cons → zaw, take_succ_cons → zay, length_cons → zaz, flatten_cons → zaA, set_cons_zero → zaB, set_cons_succ → zaC, not_mem_nil → zaD, length_nil → zaE, flatten_nil → zaF, cons_append → zaG, getD_cons_zero → zaH, getD_cons_succ → zaI, nil_append → zaJ, take_zero → zaM, take_nil → zaP, length_drop → zaR, take_of_length_le → zaS, length_append → zaT
open Int renaming cast_ofNat_Int → zac, reduceEq → zaj, reduceLT → zak, reduceLE → zal
open Option renaming getD_some → zaN, getD_none → zaO
open Bool renaming and_eq_false_iff → zan, or_eq_false_iff → zao, not_eq_true' → zaq, not_eq_false' → zar, and_eq_true → zas, or_eq_true → zat
open And renaming intro → zap
open Go.Proofs.Ytnahpejlhfeleaa.Sh.Cell renaming ren → zax
open Go.Proofs.Ytnahpejlhfeleaa.Sh.SV renaming renL → zaL, ren → zaQ
open Go.Proofs.Ytnahpejlhfeleaa.Sh.Row renaming ren → zaK
open Go.Proofs.Ytnahpejlhfeleaa.Sh.St renaming hpF → zaU
-- NEWGO
-- PRUNE: cl_lendx cl_use
-- ISG: Cs_isG
-- FLAT: Cs_flat
namespace Go.Proofs.Ytnahpejlhfeleaa
set_option linter.unusedVariables false
set_option linter.unusedSimpArgs false
open Go.Proofs.Ytnahpejlhfeleaa.Sh
set_option maxRecDepth 20000
theorem nd_cl (xs : List (Nd)) (c : Option Nat) (hl : xs.length ≤ 1000000) : FnSpec Try.prog 40 [gr xs c] [] (.one (.osl 0 0 xs.length none)) [some ⟨Cs xs, 6⟩] := by
  have hts : List.take (xs.length * 6) (Cs xs) = Cs xs := Cs_all xs _ (zaV _)
  have hil : (Cs xs).length = xs.length * 6 := Cs_len xs
  by_cases h0 : 0 < xs.length
  · refine fnspec_of mixed TT_ok TT_cl ⟨fun _ => false, fun _ => [], 0, fun _ => false, fun _ => false⟩ Try.func40 rfl (by kernel_rfl) rfl 8 rfl [.tmp 2] rfl ?_
    simp only [go_sem, zaa, zae, zaf, zag, zai, zad, ↓reduceIte, reduceCtorEq, zab, zac, zaj, zak, zal, hts, hil]
    repeat' (first
 | with_reducible refine zap ?_ ?_
 | (intros; omega)
 | (intros; (try simp only [zas, zat, zaq, zar, zan, zao, decide_eq_true_eq, decide_eq_false_iff_not] at *); omega))
    (refine fs_flat [(5, ⟨Cs xs, 6⟩)] (by simp) (by simp only [zah, zam]; decide) (by simp only [go_sem, resV, resS, zaQ, zaL, zax, St.tmF, zaU, idx, renO, zaK, evS, slot, lookR, zaa, ↓reduceIte, reduceCtorEq, if_true, if_false, zaN, zaO, zah, zam, sLoad, readAt, readNeed, Ints_ren, Ints_length, Ints_getD, and_true, true_and, zaH, zaI]; try decide) ?_ (by simp only [zaw, zaD, false_implies, implies_true, and_true, zaU, lookR, zaa, if_true, if_false, ↓reduceIte, Cs_flat] <;> (repeat' apply zap) <;> (first | rfl | trivial)) (by simp only [zaw, zaD, false_implies, implies_true, and_true, true_and, flat_cons, flat_nil, flat_ints, flat_bools, flat_app, Cell.refs, and_self, eq_self_iff_true, zav, Cs_flat]) ?_ <;> (try simp only [go_sem, resV, resS, zaQ, zaL, zax, St.tmF, zaU, idx, renO, zaK, evS, slot, lookR, zaa, ↓reduceIte, reduceCtorEq, if_true, if_false, zaN, zaO, zah, zam, sLoad, readAt, readNeed, Ints_ren, Ints_length, Ints_getD, and_true, true_and, zaH, zaI]) <;> (try rfl))
  · have hn : xs = [] := List.length_eq_zero_iff.1 (by omega)
    subst hn
    refine FnSpec.niln (FnSpec.nilrow 6 ?_) (fun ad cc => ?_)
    · refine fnspec_of mixed TT_ok TT_cl ⟨fun _ => false, fun _ => [], 0, fun _ => false, fun _ => false⟩ Try.func40 rfl (by kernel_rfl) rfl 8 rfl [.tmp 2] rfl ?_
      simp only [go_sem, zaa, zae, zaf, zag, zai, zad, ↓reduceIte, reduceCtorEq, zab, zac, zaj, zak, zal]
      repeat' (first
 | exact fs_nil trivial rfl
 | fail)
    · refine fnspec_of mixed TT_ok TT_cl ⟨fun _ => false, fun _ => [], 0, fun _ => false, fun _ => false⟩ Try.func40 rfl (by kernel_rfl) rfl 8 rfl [.tmp 2] rfl ?_
      simp only [go_sem, zaa, zae, zaf, zag, zai, zad, ↓reduceIte, reduceCtorEq, zab, zac, zaj, zak, zal]
      repeat' (first
 | (intros; (try simp only [zas, zat, zaq, zar, zan, zao, decide_eq_true_eq, decide_eq_false_iff_not] at *); omega))
      (refine fs_flat [(5, ⟨[], 6⟩)] (by simp) (by simp only [zah, zam]; decide) (by simp only [go_sem, resV, resS, zaQ, zaL, zax, St.tmF, zaU, idx, renO, zaK, evS, slot, lookR, zaa, ↓reduceIte, reduceCtorEq, if_true, if_false, zaN, zaO, zah, zam, sLoad, readAt, readNeed, Ints_ren, Ints_length, Ints_getD, and_true, true_and, zaH, zaI]; try decide) ?_ (by simp only [zaw, zaD, false_implies, implies_true, and_true, zaU, lookR, zaa, if_true, if_false, ↓reduceIte, Cs_flat] <;> (repeat' apply zap) <;> (first | rfl | trivial)) (by simp only [zaw, zaD, false_implies, implies_true, and_true, true_and, flat_cons, flat_nil, flat_ints, flat_bools, flat_app, Cell.refs, and_self, eq_self_iff_true, zav, Cs_flat]) ?_ <;> (try simp only [go_sem, resV, resS, zaQ, zaL, zax, St.tmF, zaU, idx, renO, zaK, evS, slot, lookR, zaa, ↓reduceIte, reduceCtorEq, if_true, if_false, zaN, zaO, zah, zam, sLoad, readAt, readNeed, Ints_ren, Ints_length, Ints_getD, and_true, true_and, zaH, zaI]) <;> (try rfl))
theorem fd_ix {l : List Nd} {n id : Int} (h : VT l n) (hb : bsF Nd.i l id = true) : fdM l n id = (gN l (bsV Nd.i l id), true) := by
  obtain ⟨h1, h2⟩ := bsF_at Nd.i l id hb
  have h2' : (gN l (bsV Nd.i l id)).i = id := h2
  unfold fdM
  rw [(chkT_iff l n).2 h, if_pos rfl]
  have : l.find? (hasI id) = some (gN l (bsV Nd.i l id)) := by
    rw [List.find?_eq_some_iff_getElem]
    refine ⟨decide_eq_true h2', bsV Nd.i l id, h1, (getD_at l _ zn h1).symm, fun j hj => ?_⟩
    have h3 := h.asc j _ hj h1
    rw [h2', show gN l j = l[j] from getD_at l j zn (by omega)] at h3
    simp only [zaq, decide_eq_false_iff_not]; omega
  rw [this]
theorem fd_no {l : List Nd} {n id : Int} (h : VT l n) (hb : bsF Nd.i l id = false) : fdM l n id = (zn, false) := by
  unfold fdM
  rw [(chkT_iff l n).2 h, if_pos rfl]
  rw [bs_any Nd.i l (fun i j hij hj => h.asc i j hij hj) id] at hb
  rw [List.find?_eq_none.2 fun x hx e => List.any_eq_false.1 hb x hx e]
theorem hasM_bs {l : List Nd} {n id : Int} (h : VT l n) : hasM l n id = bsF Nd.i l id := by
  rw [bs_any Nd.i l (fun i j hij hj => h.asc i j hij hj) id]
  unfold hasM
  rw [(chkT_iff l n).2 h, Bool.true_and]
set_option maxHeartbeats 8000000 in
theorem tfind_spec (l : List Nd) (n id : Int) (hl : l.length ≤ 1000000) (hnm : NmR l) (hct : CtR l) : FnSpec Try.prog 50 [trV l none n, i1 id] [] (.tup [.agg (ndc (fdM l n id).1), b1 (fdM l n id).2]) [] := by
  have h1 := tchk_spec l n hl hnm hct
  have h2 := index_spec l none id hl
  have hnl := nd_len l
  cases hb : bsF Nd.i l id with
  | false =>
    have e : fdM l n id = (zn, false) := by
      cases hc : chkT l n with
      | false => unfold fdM; rw [hc]; rfl
      | true => exact fd_no ((chkT_iff l n).1 hc) hb
    rw [e]
    rw [hb] at h2
    generalize bsV Nd.i l id = v at *
    refine fnspec_of mixed TT_ok TT_cl ⟨fun _ => false, fun _ => [], 0, fun _ => false, fun _ => false⟩ Try.func50 rfl (by kernel_rfl) rfl 28 rfl [.cell 4 42, .tmp 5] rfl ?_
    simp only [go_sem, zaa, zae, zaf, zag, zai, zad, ↓reduceIte, reduceCtorEq, zab, zac, zaj, zak, zal]
    repeat' (first
 | with_reducible refine zap ?_ ?_
 | (apply cl_plain
    case hs => rfl
    case ha => (simp only [zah, zam, prepV, prepC, idx, hpL', lookR, zaa, if_true, if_false]; rfl)
    case h => (first | exact h2 ..))
 | ((first | refine s1_id ?_ | refine swp_id ?_ | refine sops_id ?_ | refine s2_id ?_); simp only [zaA, zaF, zav, zaG, zaJ, zaB, zaC, zay, zaM, zaP, zaz, zaE, go_sem, zaa, zae, zaf, zag, zai, zad, ↓reduceIte, reduceCtorEq, zab, zac, zaj, zak, zal, zaQ, zaL, zax, zaK, renO, bk, back, outUpsFrom, Ints_ren])
 | (intros; omega)
 | (apply fs_nil <;> (try simp only [go_sem, resV, resS, zaQ, zaL, zax, St.tmF, zaU, idx, renO, zaK, evS, slot, lookR, zaa, ↓reduceIte, reduceCtorEq, if_true, if_false, zaN, zaO, zah, zam, sLoad, readAt, readNeed, Ints_ren, Ints_length, Ints_getD, and_true, true_and, zaH, zaI]) <;> (try rfl))
 | fail)
  | true =>
  rw [hb] at h2
  cases hc : chkT l n with
  | false =>
    have e : fdM l n id = (zn, false) := by unfold fdM; rw [hc]; rfl
    rw [e]
    rw [hc] at h1
    generalize bsV Nd.i l id = v at *
    refine fnspec_of mixed TT_ok TT_cl ⟨fun _ => false, fun _ => [], 0, fun _ => false, fun _ => false⟩ Try.func50 rfl (by kernel_rfl) rfl 28 rfl [.cell 4 42, .tmp 5] rfl ?_
    simp only [go_sem, zaa, zae, zaf, zag, zai, zad, ↓reduceIte, reduceCtorEq, zab, zac, zaj, zak, zal]
    repeat' (first
 | with_reducible refine zap ?_ ?_
 | (apply cg_tp
    case hl => rfl
    case ha => (simp only [zah, zam, prepV, prepC, idx, hpL', lookR, zaa, if_true, if_false]; rfl)
    case hs => rfl
    case h => (first | exact h1 .. | exact h2 ..))
 | (apply cl_plain
    case hs => rfl
    case ha => (simp only [zah, zam, prepV, prepC, idx, hpL', lookR, zaa, if_true, if_false]; rfl)
    case h => (first | exact h1 .. | exact h2 ..))
 | ((first | refine s1_id ?_ | refine swp_id ?_ | refine sops_id ?_ | refine s2_id ?_); simp only [zaA, zaF, zav, zaG, zaJ, zaB, zaC, zay, zaM, zaP, zaz, zaE, go_sem, zaa, zae, zaf, zag, zai, zad, ↓reduceIte, reduceCtorEq, zab, zac, zaj, zak, zal, zaQ, zaL, zax, zaK, renO, bk, back, outUpsFrom, Ints_ren])
 | (intros; omega)
 | (apply fs_nil <;> (try simp only [go_sem, resV, resS, zaQ, zaL, zax, St.tmF, zaU, idx, renO, zaK, evS, slot, lookR, zaa, ↓reduceIte, reduceCtorEq, if_true, if_false, zaN, zaO, zah, zam, sLoad, readAt, readNeed, Ints_ren, Ints_length, Ints_getD, and_true, true_and, zaH, zaI]) <;> (try rfl))
 | fail)
  | true =>
  rw [fd_ix ((chkT_iff l n).1 hc) hb]
  rw [hc] at h1
  have hlt := (bsF_at Nd.i l id hb).1
  generalize bsV Nd.i l id = v at *
  have hN := nd_td l v hlt
  generalize gN l v = x at *
  obtain ⟨xi, xp, xn, xc, xk, xo⟩ := x
  simp only [ndc] at hN ⊢
  refine fnspec_of mixed TT_ok TT_cl ⟨fun _ => false, fun _ => [], 0, fun _ => false, fun _ => false⟩ Try.func50 rfl (by kernel_rfl) rfl 28 rfl [.cell 4 42, .tmp 5] rfl ?_
  simp only [go_sem, zaa, zae, zaf, zag, zai, zad, ↓reduceIte, reduceCtorEq, zab, zac, zaj, zak, zal, hN]
  repeat' (first
 | with_reducible refine zap ?_ ?_
 | (apply cg_tp
    case hl => rfl
    case ha => (simp only [zah, zam, prepV, prepC, idx, hpL', lookR, zaa, if_true, if_false]; rfl)
    case hs => rfl
    case h => (first | exact h1 .. | exact h2 ..))
 | (apply cl_plain
    case hs => rfl
    case ha => (simp only [zah, zam, prepV, prepC, idx, hpL', lookR, zaa, if_true, if_false]; rfl)
    case h => (first | exact h1 .. | exact h2 ..))
 | ((first | refine s1_id ?_ | refine swp_id ?_ | refine sops_id ?_ | refine s2_id ?_); simp only [hN, zaA, zaF, zav, zaG, zaJ, zaB, zaC, zay, zaM, zaP, zaz, zaE, go_sem, zaa, zae, zaf, zag, zai, zad, ↓reduceIte, reduceCtorEq, zab, zac, zaj, zak, zal, zaQ, zaL, zax, zaK, renO, bk, back, outUpsFrom, Ints_ren])
 | (intros; omega)
 | (apply fs_nil <;> (try simp only [go_sem, resV, resS, zaQ, zaL, zax, St.tmF, zaU, idx, renO, zaK, evS, slot, lookR, zaa, ↓reduceIte, reduceCtorEq, if_true, if_false, zaN, zaO, zah, zam, sLoad, readAt, readNeed, Ints_ren, Ints_length, Ints_getD, and_true, true_and, zaH, zaI]) <;> (try rfl))
 | fail)
def upT (l : List Nd) (t : Nat) : List Int := if t = 0 then [] else upL l (gN l t).p
theorem VT.upT {l : List Nd} {n : Int} (h : VT l n) {t : Nat} (ht : t < l.length) : upL l (gN l t).i = (gN l t).i :: upT l t := by
  unfold Go.Proofs.Ytnahpejlhfeleaa.upT
  by_cases h0 : t = 0
  · subst h0
    rw [if_pos rfl, h.root.1, h.up0]
  · rw [if_neg h0, h.up ht h0]
set_option maxHeartbeats 16000000 in
theorem tanc_spec (l : List Nd) (n id : Int) (hl : l.length ≤ 1000000) (hnm : NmR l) (hct : CtR l) : FnSpec Try.prog 27 [trV l none n, i1 id] [] (gi (ancM l n id) none) [] := by
  have h1 := tfind_spec l n id hl hnm hct
  have h2 := fdM_2 l n id
  have hnl := nd_len l
  unfold ancM
  cases hh : hasM l n id with
  | false =>
    rw [hh] at h2
    rw [if_neg Bool.false_ne_true]
    generalize fdM l n id = u at *
    obtain ⟨⟨xi, xp, xn, xc, xk, xo⟩, b⟩ := u
    simp only at h2
    subst h2
    simp only [ndc] at h1
    refine fnspec_of mixed TT_ok TT_cl ⟨fun _ => false, fun _ => [], 0, fun _ => false, fun _ => false⟩ Try.func27 rfl (by kernel_rfl) rfl 42 rfl [.tmp 4] rfl ?_
    simp only [go_sem, zaa, zae, zaf, zag, zai, zad, ↓reduceIte, reduceCtorEq, zab, zac, zaj, zak, zal]
    repeat' (first
 | (apply cl_plain
    case hs => rfl
    case ha => (simp only [zah, zam, prepV, prepC, idx, hpL', lookR, zaa, if_true, if_false]; rfl)
    case h => (first | exact h1 ..))
 | ((first | refine s1_id ?_ | refine swp_id ?_ | refine sops_id ?_ | refine s2_id ?_); simp only [zaA, zaF, zav, zaG, zaJ, zaB, zaC, zay, zaM, zaP, zaz, zaE, go_sem, zaa, zae, zaf, zag, zai, zad, ↓reduceIte, reduceCtorEq, zab, zac, zaj, zak, zal, zaQ, zaL, zax, zaK, renO, bk, back, outUpsFrom, Ints_ren])
 | (intros; (try simp only [zas, zat, zaq, zar, zan, zao, decide_eq_true_eq, decide_eq_false_iff_not] at *); omega))
    repeat' (first
 | exact fs_w trivial (svw_of cw_gnil)
 | fail)
  | true =>
  rw [if_pos rfl]
  have hk : chkT l n = true := (hasM_iff.1 hh).1
  have hV := (chkT_iff l n).1 hk
  have hb : bsF Nd.i l id = true := by rw [← hasM_bs hV, hh]
  obtain ⟨b1', b2'⟩ := bsF_at Nd.i l id hb
  rw [fd_ix hV hb] at h1
  generalize bsV Nd.i l id = v at *
  have e0 : (gN l v).i = id := b2'
  have hu := hV.upT b1'
  rw [e0] at hu
  obtain ⟨U, hU⟩ : ∃ U, upL l id = U := ⟨_, rfl⟩
  have hUl : U.length ≤ l.length := by rw [← hU]; have := upR_len l.reverse id; rw [List.length_reverse] at this; exact this
  rw [hU] at hu ⊢
  simp only at h1
  generalize hx : gN l v = x at *
  obtain ⟨xi, xp, xn, xc, xk, xo⟩ := x
  simp only [ndc] at h1
  refine fnspec_of mixed TT_ok TT_cl ⟨fun _ => false, fun _ => [], 0, fun _ => false, fun _ => false⟩ Try.func27 rfl (by kernel_rfl) rfl 42 rfl [.tmp 4] rfl ?_
  simp only [go_sem, zaa, zae, zaf, zag, zai, zad, ↓reduceIte, reduceCtorEq, zab, zac, zaj, zak, zal]
  repeat' (first
 | (apply cl_plain
    case hs => rfl
    case ha => (simp only [zah, zam, prepV, prepC, idx, hpL', lookR, zaa, if_true, if_false]; rfl)
    case h => (first | exact h1 ..))
 | ((first | refine s1_id ?_ | refine swp_id ?_ | refine sops_id ?_ | refine s2_id ?_); simp only [zaA, zaF, zav, zaG, zaJ, zaB, zaC, zay, zaM, zaP, zaz, zaE, go_sem, zaa, zae, zaf, zag, zai, zad, ↓reduceIte, reduceCtorEq, zab, zac, zaj, zak, zal, zaQ, zaL, zax, zaK, renO, bk, back, outUpsFrom, Ints_ren])
 | (intros; (try simp only [zas, zat, zaq, zar, zan, zao, decide_eq_true_eq, decide_eq_false_iff_not] at *); omega))
  refine w_loop (ι := Nat × List Int) (fun s => ⟨[(2, .one (.optr 0 0)), (5, .one (.optr 1 0)), (7, .one (.osl 2 0 s.2.length none))], [(0, some ⟨[.gsl (Cs l) 0 l.length none, int n], 2⟩), (1, some ⟨ndc (gN l s.1), 6⟩), (2, some ⟨Ints s.2, 1⟩)], 3⟩) (fun s => s.1 < l.length ∧ U = s.2 ++ upT l s.1) (fun s => s.1) (v, [id]) ?_ ⟨b1', hu⟩ ?_
  · refine Imp.trans (t := ⟨[(2, .one (.optr 0 0)), (5, .one (.optr 1 0)), (7, .one (.osl 2 0 1 (some 1)))], [(0, some ⟨[.gsl (Cs l) 0 l.length none, int n], 2⟩), (1, some ⟨[int xi, int xp, st xn, int xc, int xk, int xo], 6⟩), (2, some ⟨Ints [id], 1⟩)], 3⟩) ?_ (imp_w _ _ _ ?_ (by rw [hx]) (zaV _))
    · skip
      (refine imp_ren _ _ _ [(0, 0, ⟨[.gsl (Cs l) 0 l.length none, int n], 2⟩), (1, 8, ⟨[int xi, int xp, st xn, int xc, int xk, int xo], 6⟩), (2, 14, ⟨Ints [id], 1⟩)] (by simp) (by simp) (by simp) (zau rfl) ?_ rfl (by simp only [zaw, zaD, false_implies, implies_true, and_true, zaU, lookR, zaa, if_true, if_false, ↓reduceIte] <;> (repeat' apply zap) <;> (first | rfl | trivial)) (by simp only [zaw, zaD, false_implies, implies_true, and_true, true_and, flat_cons, flat_nil, flat_ints, flat_bools, flat_app, Cell.refs, and_self, eq_self_iff_true, zav]); simp only [zah, zam, zaw, zaD, false_implies, implies_true, and_true, lk, slot, zaQ, zax, toN, zaa, if_true, if_false, ↓reduceIte, reduceCtorEq])
      all_goals ((repeat' apply zap) <;> (first | rfl | trivial))
    · intro x hx
      simp only [List.mem_cons, zaD, or_false] at hx
      rcases hx with rfl | rfl | rfl <;> first | exact ⟨_, rfl, SVW.refl _⟩ | exact ⟨_, rfl, svw_of (cw_ocap _ _ _ _)⟩
  clear h1 hx hu e0
  rintro ⟨t, W⟩ ⟨ht, hW⟩
  simp only at ht hW ⊢
  have hWl : W.length ≤ l.length := by rw [hW, zaT] at hUl; omega
  by_cases h0 : t = 0
  · subst h0
    have hr := hV.root.1
    rw [show upT l 0 = [] from rfl, zav] at hW
    subst hW
    generalize gN l 0 = y at *
    obtain ⟨yi, yp, yn, yc, yk, yo⟩ := y
    simp only at hr
    subst hr
    simp only [go_sem, zaa, zae, zaf, zag, zai, zad, ↓reduceIte, reduceCtorEq, zab, zac, zaj, zak, zal, ndc]
    repeat' (first
 | (intros; (try simp only [zas, zat, zaq, zar, zan, zao, decide_eq_true_eq, decide_eq_false_iff_not] at *); omega))
    (refine fs_frz 2 ⟨Ints U, 1⟩ (by simp only [zaU, lookR, zaa, if_true, if_false, ↓reduceIte]) (by first | exact Ints_isG _ | exact Bools_isG _ | exact Cs_isG _ | (simp [Cell.isG]; done)) ?_; simp only [frzTm, SV.frz, SV.frzL, Cell.frz, frzHp, frzO, Ints_frz, Bools_frz, zah, zam, zaa, if_true, if_false, ↓reduceIte])
    apply fs_nil <;> (try simp only [go_sem, resV, resS, zaQ, zaL, zax, St.tmF, zaU, idx, renO, zaK, evS, slot, lookR, zaa, ↓reduceIte, reduceCtorEq, if_true, if_false, zaN, zaO, zah, zam, sLoad, readAt, readNeed, Ints_ren, Ints_length, Ints_getD, and_true, true_and, zaH, zaI]) <;> (try rfl)
  · have hne : ¬ (gN l t).i = 1 := by
      have := hV.asc 0 t (by omega) ht
      rw [hV.root.1] at this; omega
    obtain ⟨j, hj, hp⟩ := (hV.ch ht h0).par
    obtain ⟨q1, q2⟩ := bs_found Nd.i l (fun i j hij hj => hV.asc i j hij hj) j (by omega)
    have q1' : bsV Nd.i l (gN l j).i = j := q1
    have q2' : bsF Nd.i l (gN l j).i = true := q2
    have h3 := index_spec l none (gN l j).i hl
    rw [q1', q2', hp] at h3
    have hW2 : U = (W ++ [(gN l t).p]) ++ upT l j := by
      rw [hW, show upT l t = upL l (gN l t).p from if_neg h0, ← hp, hV.upT (by omega), List.append_assoc]; rfl
    have hN := nd_td l j (by omega)
    generalize gN l t = y at *
    obtain ⟨yi, yp, yn, yc, yk, yo⟩ := y
    simp only at hne h3 hW2 hp
    have htk : List.take W.length (Ints W) = Ints W := zaS (by rw [Ints_length]; exact zaV _)
    have hpp : Ints W ++ [int yp] = Ints (W ++ [yp]) := by simp [Ints]
    have hla : (W ++ [yp]).length = W.length + 1 := by simp
    simp only [go_sem, zaa, zae, zaf, zag, zai, zad, ↓reduceIte, reduceCtorEq, zab, zac, zaj, zak, zal, ndc, decide_eq_false hne, hN]
    repeat' (first
 | with_reducible refine zap ?_ ?_
 | (apply cl_plain
    case hs => rfl
    case ha => (simp only [zah, zam, prepV, prepC, idx, hpL', lookR, zaa, if_true, if_false]; rfl)
    case h => (first | exact h3 ..))
 | ((first | refine s1_id ?_ | refine swp_id ?_ | refine sops_id ?_ | refine s2_id ?_); simp only [ndc, decide_eq_false hne, htk, hpp, hN, zaA, zaF, zav, zaG, zaJ, zaB, zaC, zay, zaM, zaP, zaz, zaE, go_sem, zaa, zae, zaf, zag, zai, zad, ↓reduceIte, reduceCtorEq, zab, zac, zaj, zak, zal, zaQ, zaL, zax, zaK, renO, bk, back, outUpsFrom, Ints_ren])
 | (intros; omega)
 | (intros; (try simp only [zas, zat, zaq, zar, zan, zao, decide_eq_true_eq, decide_eq_false_iff_not] at *); omega))
    refine le_mk (j, W ++ [yp]) ?_ ⟨by omega, hW2⟩ hj
    simp only [hla]
    (refine imp_ren _ _ _ [(0, 0, ⟨[.gsl (Cs l) 0 l.length none, int n], 2⟩), (1, 1, ⟨ndc (gN l j), 6⟩), (2, 10, ⟨Ints (W ++ [yp]), 1⟩)] (by simp) (by simp) (by simp) (zau rfl) ?_ rfl (by simp only [zaw, zaD, false_implies, implies_true, and_true, zaU, lookR, zaa, if_true, if_false, ↓reduceIte, ndc] <;> (repeat' apply zap) <;> (first | rfl | trivial)) (by simp only [zaw, zaD, false_implies, implies_true, and_true, true_and, flat_cons, flat_nil, flat_ints, flat_bools, flat_app, Cell.refs, and_self, eq_self_iff_true, zav, ndc]); simp only [zah, zam, zaw, zaD, false_implies, implies_true, and_true, lk, slot, zaQ, zax, toN, zaa, if_true, if_false, ↓reduceIte, reduceCtorEq])
    all_goals ((repeat' apply zap) <;> (first | rfl | trivial | (simp only [ndc]; done) | (simp only [ndc]; rfl) | (simp only [ndc]; trivial)))
theorem tdepth_spec (l : List Nd) (n id : Int) (hl : l.length ≤ 1000000) (hnm : NmR l) (hct : CtR l) : FnSpec Try.prog 19 [trV l none n, i1 id] [] (i1 ((ancM l n id).length - 1)) [] := by
  have h1 := tanc_spec l n id hl hnm hct
  have h2 := ancM_len l n id
  generalize ancM l n id = U at *
  refine fnspec_of mixed TT_ok TT_cl ⟨fun _ => false, fun _ => [], 0, fun _ => false, fun _ => false⟩ Try.func19 rfl (by kernel_rfl) rfl 10 rfl [.tmp 4] rfl ?_
  simp only [go_sem, zaa, zae, zaf, zag, zai, zad, ↓reduceIte, reduceCtorEq, zab, zac, zaj, zak, zal]
  repeat' (first
 | with_reducible refine zap ?_ ?_
 | (apply cl_plain
    case hs => rfl
    case ha => (simp only [zah, zam, prepV, prepC, idx, hpL', lookR, zaa, if_true, if_false]; rfl)
    case h => (first | exact h1 ..))
 | ((first | refine s1_id ?_ | refine swp_id ?_ | refine sops_id ?_ | refine s2_id ?_); simp only [go_sem, zaa, zae, zaf, zag, zai, zad, ↓reduceIte, reduceCtorEq, zab, zac, zaj, zak, zal, zaQ, zaL, zax, zaK, renO, bk, back, outUpsFrom, Ints_ren])
 | (intros; omega)
 | exact fs_nil trivial rfl
 | fail)
theorem tnew_spec : FnSpec Try.prog 10 [] [] (trV [⟨1, 0, [], 0, 0, 0⟩] none 2) [] := by
  refine fnspec_of mixed TT_ok TT_cl ⟨fun _ => false, fun _ => [], 0, fun _ => false, fun _ => false⟩ Try.func10 rfl (by kernel_rfl) rfl 4 rfl [.cell 0 29] rfl ?_
  simp only [go_sem, zaa, zae, zaf, zag, zai, zad, ↓reduceIte, reduceCtorEq, zab, zac, zaj, zak, zal]
  repeat' (first
 | with_reducible refine zap ?_ ?_
 | (intros; (try simp only [zas, zat, zaq, zar, zan, zao, decide_eq_true_eq, decide_eq_false_iff_not] at *); omega))
  all_goals try (exact zaV _)
  simp only [zaA, zaF, zav, zaG, zaJ, zaB, zaC, zay, zaM, zaP, zaz, zaE]
  (refine fs_frz 2 ⟨[int 1, int 0, st [], int 0, int 0, int 0], 6⟩ (by simp only [zaU, lookR, zaa, if_true, if_false, ↓reduceIte]) (by first | exact Ints_isG _ | exact Bools_isG _ | exact Cs_isG _ | (simp [Cell.isG]; done)) ?_; simp only [frzTm, SV.frz, SV.frzL, Cell.frz, frzHp, frzO, Ints_frz, Bools_frz, zah, zam, zaa, if_true, if_false, ↓reduceIte])
  repeat' (first
 | (refine fs_w ?h1 (svw_of ?h2); (case h1 => repeat' (first | exact trivial | exact rfl | exact zau rfl | apply zap)); (case h2 => repeat' (first | ((with_reducible refine (?_ : CW _ _)); first | exact cw_gnil | exact cw_rfl _ | exact cw_niln _ _ | exact cw_cap _ _ _ _) | exact trivial | (show _ ∧ SWL _ _; apply zap) | (show _ ∧ CWL _ _; apply zap) | show CW _ _)))
 | fail)
set_option maxHeartbeats 16000000 in
theorem tadd_spec (l : List Nd) (n p : Int) (s : Str) (hl : l.length ≤ 1000000) (hnm : NmR l) (hct : CtR l) (hs : s.length ≤ 1000000000) : FnSpec Try.prog 13 [trV l none n, i1 p, s1 s] [] (adV (addM l n p s)) [] := by
  have h1 := tchk_spec l n hl hnm hct
  have h2 := valid_spec s (by omega)
  have hnl := nd_len l
  unfold addM
  cases hc : chkT l n with
  | false =>
    rw [hc] at h1
    rw [Bool.false_and, if_pos rfl]
    refine fnspec_of mixed TT_ok TT_cl ⟨fun _ => false, fun _ => [], 0, fun _ => false, fun _ => false⟩ Try.func13 rfl (by kernel_rfl) rfl 70 rfl [.cell 6 29, .tmp 7, .tmp 8] rfl ?_
    simp only [go_sem, zaa, zae, zaf, zag, zai, zad, ↓reduceIte, reduceCtorEq, zab, zac, zaj, zak, zal]
    repeat' (first
 | (apply cl_plain
    case hs => rfl
    case ha => (simp only [zah, zam, prepV, prepC, idx, hpL', lookR, zaa, if_true, if_false]; rfl)
    case h => (first | exact h1 .. | exact h2 ..))
 | ((first | refine s1_id ?_ | refine swp_id ?_ | refine sops_id ?_ | refine s2_id ?_); simp only [go_sem, zaa, zae, zaf, zag, zai, zad, ↓reduceIte, reduceCtorEq, zab, zac, zaj, zak, zal, zaQ, zaL, zax, zaK, renO, bk, back, outUpsFrom, Ints_ren])
 | (intros; (try simp only [zas, zat, zaq, zar, zan, zao, decide_eq_true_eq, decide_eq_false_iff_not] at *); omega))
    repeat' (first
 | (refine fs_w ?h1 (svw_of ?h2); (case h1 => repeat' (first | exact trivial | exact rfl | exact zau rfl | apply zap)); (case h2 => repeat' (first | ((with_reducible refine (?_ : CW _ _)); first | exact cw_gnil | exact cw_rfl _ | exact cw_niln _ _ | exact cw_cap _ _ _ _) | exact trivial | (show _ ∧ SWL _ _; apply zap) | (show _ ∧ CWL _ _; apply zap) | show CW _ _)))
 | fail)
  | true =>
  rw [hc] at h1
  rw [Bool.true_and]
  have hV := (chkT_iff l n).1 hc
  cases hv : nmOk s with
  | false =>
    rw [hv] at h2
    rw [if_pos rfl]
    refine fnspec_of mixed TT_ok TT_cl ⟨fun _ => false, fun _ => [], 0, fun _ => false, fun _ => false⟩ Try.func13 rfl (by kernel_rfl) rfl 70 rfl [.cell 6 29, .tmp 7, .tmp 8] rfl ?_
    simp only [go_sem, zaa, zae, zaf, zag, zai, zad, ↓reduceIte, reduceCtorEq, zab, zac, zaj, zak, zal]
    repeat' (first
 | (apply cg_tp
    case hl => rfl
    case ha => (simp only [zah, zam, prepV, prepC, idx, hpL', lookR, zaa, if_true, if_false]; rfl)
    case hs => rfl
    case h => (first | exact h1 .. | exact h2 ..))
 | (apply cl_plain
    case hs => rfl
    case ha => (simp only [zah, zam, prepV, prepC, idx, hpL', lookR, zaa, if_true, if_false]; rfl)
    case h => (first | exact h1 .. | exact h2 ..))
 | ((first | refine s1_id ?_ | refine swp_id ?_ | refine sops_id ?_ | refine s2_id ?_); simp only [go_sem, zaa, zae, zaf, zag, zai, zad, ↓reduceIte, reduceCtorEq, zab, zac, zaj, zak, zal, zaQ, zaL, zax, zaK, renO, bk, back, outUpsFrom, Ints_ren])
 | (intros; (try simp only [zas, zat, zaq, zar, zan, zao, decide_eq_true_eq, decide_eq_false_iff_not] at *); omega))
    repeat' (first
 | (refine fs_w ?h1 (svw_of ?h2); (case h1 => repeat' (first | exact trivial | exact rfl | exact zau rfl | apply zap)); (case h2 => repeat' (first | ((with_reducible refine (?_ : CW _ _)); first | exact cw_gnil | exact cw_rfl _ | exact cw_niln _ _ | exact cw_cap _ _ _ _) | exact trivial | (show _ ∧ SWL _ _; apply zap) | (show _ ∧ CWL _ _; apply zap) | show CW _ _)))
 | fail)
  | true =>
  rw [hv] at h2
  rw [if_neg (by decide)]
  have h3 := index_spec l none p hl
  have hhb := hasM_bs (id := p) hV
  cases hh : hasM l n p with
  | false =>
    rw [← hhb, hh] at h3
    rw [if_pos rfl]
    generalize bsV Nd.i l p = v at *
    refine fnspec_of mixed TT_ok TT_cl ⟨fun _ => false, fun _ => [], 0, fun _ => false, fun _ => false⟩ Try.func13 rfl (by kernel_rfl) rfl 70 rfl [.cell 6 29, .tmp 7, .tmp 8] rfl ?_
    simp only [go_sem, zaa, zae, zaf, zag, zai, zad, ↓reduceIte, reduceCtorEq, zab, zac, zaj, zak, zal]
    repeat' (first
 | (apply cg_tp
    case hl => rfl
    case ha => (simp only [zah, zam, prepV, prepC, idx, hpL', lookR, zaa, if_true, if_false]; rfl)
    case hs => rfl
    case h => (first | exact h1 .. | exact h2 .. | exact h3 ..))
 | (apply cl_plain
    case hs => rfl
    case ha => (simp only [zah, zam, prepV, prepC, idx, hpL', lookR, zaa, if_true, if_false]; rfl)
    case h => (first | exact h1 .. | exact h2 .. | exact h3 ..))
 | ((first | refine s1_id ?_ | refine swp_id ?_ | refine sops_id ?_ | refine s2_id ?_); simp only [go_sem, zaa, zae, zaf, zag, zai, zad, ↓reduceIte, reduceCtorEq, zab, zac, zaj, zak, zal, zaQ, zaL, zax, zaK, renO, bk, back, outUpsFrom, Ints_ren])
 | (intros; (try simp only [zas, zat, zaq, zar, zan, zao, decide_eq_true_eq, decide_eq_false_iff_not] at *); omega))
    repeat' (first
 | (refine fs_w ?h1 (svw_of ?h2); (case h1 => repeat' (first | exact trivial | exact rfl | exact zau rfl | apply zap)); (case h2 => repeat' (first | ((with_reducible refine (?_ : CW _ _)); first | exact cw_gnil | exact cw_rfl _ | exact cw_niln _ _ | exact cw_cap _ _ _ _) | exact trivial | (show _ ∧ SWL _ _; apply zap) | (show _ ∧ CWL _ _; apply zap) | show CW _ _)))
 | fail)
  | true =>
  rw [← hhb, hh] at h3
  rw [if_neg (by decide)]
  generalize bsV Nd.i l p = v at *
  have h4 := taken_spec l none p s hl
  cases ht : l.any (same1 p s) with
  | true =>
    rw [ht] at h4
    rw [if_pos rfl]
    refine fnspec_of mixed TT_ok TT_cl ⟨fun _ => false, fun _ => [], 0, fun _ => false, fun _ => false⟩ Try.func13 rfl (by kernel_rfl) rfl 70 rfl [.cell 6 29, .tmp 7, .tmp 8] rfl ?_
    simp only [go_sem, zaa, zae, zaf, zag, zai, zad, ↓reduceIte, reduceCtorEq, zab, zac, zaj, zak, zal]
    repeat' (first
 | (apply cg_tp
    case hl => rfl
    case ha => (simp only [zah, zam, prepV, prepC, idx, hpL', lookR, zaa, if_true, if_false]; rfl)
    case hs => rfl
    case h => (first | exact h1 .. | exact h2 .. | exact h3 .. | exact h4 ..))
 | (apply cl_plain
    case hs => rfl
    case ha => (simp only [zah, zam, prepV, prepC, idx, hpL', lookR, zaa, if_true, if_false]; rfl)
    case h => (first | exact h1 .. | exact h2 .. | exact h3 .. | exact h4 ..))
 | ((first | refine s1_id ?_ | refine swp_id ?_ | refine sops_id ?_ | refine s2_id ?_); simp only [go_sem, zaa, zae, zaf, zag, zai, zad, ↓reduceIte, reduceCtorEq, zab, zac, zaj, zak, zal, zaQ, zaL, zax, zaK, renO, bk, back, outUpsFrom, Ints_ren])
 | (intros; (try simp only [zas, zat, zaq, zar, zan, zao, decide_eq_true_eq, decide_eq_false_iff_not] at *); omega))
    repeat' (first
 | (refine fs_w ?h1 (svw_of ?h2); (case h1 => repeat' (first | exact trivial | exact rfl | exact zau rfl | apply zap)); (case h2 => repeat' (first | ((with_reducible refine (?_ : CW _ _)); first | exact cw_gnil | exact cw_rfl _ | exact cw_niln _ _ | exact cw_cap _ _ _ _) | exact trivial | (show _ ∧ SWL _ _; apply zap) | (show _ ∧ CWL _ _; apply zap) | show CW _ _)))
 | fail)
  | false =>
  rw [ht] at h4
  rw [if_neg (by decide)]
  have h5 := tdepth_spec l n p hl hnm hct
  have h6 := nd_cl l none hl
  have hle := hV.le
  have hdp : (ancM l n p).length ≤ 9 := by
    unfold ancM
    rw [hh, if_pos rfl]
    obtain ⟨hk, y, hy, rfl⟩ := hasM_iff.1 hh
    obtain ⟨i, hi, rfl⟩ := gN_mem l y hy
    exact hV.dp i hi
  have hmx := hV.mx
  have hpos := hV.nx
  have hp1 := hV.pos (i := l.length - 1) (by have := hV.ne; omega)
  generalize ancM l n p = A at *
  by_cases c1 : (A.length : Int) - 1 = 8
  · rw [if_pos (by omega)]
    refine fnspec_of mixed TT_ok TT_cl ⟨fun _ => false, fun _ => [], 0, fun _ => false, fun _ => false⟩ Try.func13 rfl (by kernel_rfl) rfl 70 rfl [.cell 6 29, .tmp 7, .tmp 8] rfl ?_
    simp only [go_sem, zaa, zae, zaf, zag, zai, zad, ↓reduceIte, reduceCtorEq, zab, zac, zaj, zak, zal, decide_eq_true c1]
    repeat' (first
 | (apply cg_tp
    case hl => rfl
    case ha => (simp only [zah, zam, prepV, prepC, idx, hpL', lookR, zaa, if_true, if_false]; rfl)
    case hs => rfl
    case h => (first | exact h1 .. | exact h2 .. | exact h3 .. | exact h4 .. | exact h5 ..))
 | (apply cl_plain
    case hs => rfl
    case ha => (simp only [zah, zam, prepV, prepC, idx, hpL', lookR, zaa, if_true, if_false]; rfl)
    case h => (first | exact h1 .. | exact h2 .. | exact h3 .. | exact h4 .. | exact h5 ..))
 | ((first | refine s1_id ?_ | refine swp_id ?_ | refine sops_id ?_ | refine s2_id ?_); simp only [decide_eq_true c1, go_sem, zaa, zae, zaf, zag, zai, zad, ↓reduceIte, reduceCtorEq, zab, zac, zaj, zak, zal, zaQ, zaL, zax, zaK, renO, bk, back, outUpsFrom, Ints_ren])
 | (intros; (try simp only [zas, zat, zaq, zar, zan, zao, decide_eq_true_eq, decide_eq_false_iff_not] at *); omega))
    repeat' (first
 | (refine fs_w ?h1 (svw_of ?h2); (case h1 => repeat' (first | exact trivial | exact rfl | exact zau rfl | apply zap)); (case h2 => repeat' (first | ((with_reducible refine (?_ : CW _ _)); first | exact cw_gnil | exact cw_rfl _ | exact cw_niln _ _ | exact cw_cap _ _ _ _) | exact trivial | (show _ ∧ SWL _ _; apply zap) | (show _ ∧ CWL _ _; apply zap) | show CW _ _)))
 | fail)
  by_cases c2 : (l.length : Int) = 64
  · rw [if_pos (by omega)]
    refine fnspec_of mixed TT_ok TT_cl ⟨fun _ => false, fun _ => [], 0, fun _ => false, fun _ => false⟩ Try.func13 rfl (by kernel_rfl) rfl 70 rfl [.cell 6 29, .tmp 7, .tmp 8] rfl ?_
    simp only [go_sem, zaa, zae, zaf, zag, zai, zad, ↓reduceIte, reduceCtorEq, zab, zac, zaj, zak, zal, decide_eq_false c1, decide_eq_true c2]
    repeat' (first
 | (apply cg_tp
    case hl => rfl
    case ha => (simp only [zah, zam, prepV, prepC, idx, hpL', lookR, zaa, if_true, if_false]; rfl)
    case hs => rfl
    case h => (first | exact h1 .. | exact h2 .. | exact h3 .. | exact h4 .. | exact h5 ..))
 | (apply cl_plain
    case hs => rfl
    case ha => (simp only [zah, zam, prepV, prepC, idx, hpL', lookR, zaa, if_true, if_false]; rfl)
    case h => (first | exact h1 .. | exact h2 .. | exact h3 .. | exact h4 .. | exact h5 ..))
 | ((first | refine s1_id ?_ | refine swp_id ?_ | refine sops_id ?_ | refine s2_id ?_); simp only [decide_eq_false c1, decide_eq_true c2, go_sem, zaa, zae, zaf, zag, zai, zad, ↓reduceIte, reduceCtorEq, zab, zac, zaj, zak, zal, zaQ, zaL, zax, zaK, renO, bk, back, outUpsFrom, Ints_ren])
 | (intros; (try simp only [zas, zat, zaq, zar, zan, zao, decide_eq_true_eq, decide_eq_false_iff_not] at *); omega))
    repeat' (first
 | (refine fs_w ?h1 (svw_of ?h2); (case h1 => repeat' (first | exact trivial | exact rfl | exact zau rfl | apply zap)); (case h2 => repeat' (first | ((with_reducible refine (?_ : CW _ _)); first | exact cw_gnil | exact cw_rfl _ | exact cw_niln _ _ | exact cw_cap _ _ _ _) | exact trivial | (show _ ∧ SWL _ _; apply zap) | (show _ ∧ CWL _ _; apply zap) | show CW _ _)))
 | fail)
  by_cases c3 : 2147483647 < n
  · rw [if_pos (by omega)]
    refine fnspec_of mixed TT_ok TT_cl ⟨fun _ => false, fun _ => [], 0, fun _ => false, fun _ => false⟩ Try.func13 rfl (by kernel_rfl) rfl 70 rfl [.cell 6 29, .tmp 7, .tmp 8] rfl ?_
    simp only [go_sem, zaa, zae, zaf, zag, zai, zad, ↓reduceIte, reduceCtorEq, zab, zac, zaj, zak, zal, decide_eq_false c1, decide_eq_false c2, decide_eq_true c3]
    repeat' (first
 | (apply cg_tp
    case hl => rfl
    case ha => (simp only [zah, zam, prepV, prepC, idx, hpL', lookR, zaa, if_true, if_false]; rfl)
    case hs => rfl
    case h => (first | exact h1 .. | exact h2 .. | exact h3 .. | exact h4 .. | exact h5 ..))
 | (apply cl_plain
    case hs => rfl
    case ha => (simp only [zah, zam, prepV, prepC, idx, hpL', lookR, zaa, if_true, if_false]; rfl)
    case h => (first | exact h1 .. | exact h2 .. | exact h3 .. | exact h4 .. | exact h5 ..))
 | ((first | refine s1_id ?_ | refine swp_id ?_ | refine sops_id ?_ | refine s2_id ?_); simp only [decide_eq_false c1, decide_eq_false c2, decide_eq_true c3, go_sem, zaa, zae, zaf, zag, zai, zad, ↓reduceIte, reduceCtorEq, zab, zac, zaj, zak, zal, zaQ, zaL, zax, zaK, renO, bk, back, outUpsFrom, Ints_ren])
 | (intros; (try simp only [zas, zat, zaq, zar, zan, zao, decide_eq_true_eq, decide_eq_false_iff_not] at *); omega))
    repeat' (first
 | (refine fs_w ?h1 (svw_of ?h2); (case h1 => repeat' (first | exact trivial | exact rfl | exact zau rfl | apply zap)); (case h2 => repeat' (first | ((with_reducible refine (?_ : CW _ _)); first | exact cw_gnil | exact cw_rfl _ | exact cw_niln _ _ | exact cw_cap _ _ _ _) | exact trivial | (show _ ∧ SWL _ _; apply zap) | (show _ ∧ CWL _ _; apply zap) | show CW _ _)))
 | fail)
  rw [if_neg (by omega)]
  have hca : List.take (l.length * 6) (Cs l) = Cs l := Cs_all l _ (zaV _)
  have hpp : Cs l ++ [int n, int p, st s, int 0, int 0, int 0] = Cs (l ++ [newN n p s]) := Cs_snoc l (newN n p s)
  have hla : (l ++ [newN n p s]).length = l.length + 1 := by simp
  refine fnspec_of mixed TT_ok TT_cl ⟨fun _ => false, fun _ => [], 0, fun _ => false, fun _ => false⟩ Try.func13 rfl (by kernel_rfl) rfl 70 rfl [.cell 6 29, .tmp 7, .tmp 8] rfl ?_
  simp only [go_sem, zaa, zae, zaf, zag, zai, zad, ↓reduceIte, reduceCtorEq, zab, zac, zaj, zak, zal, decide_eq_false c1, decide_eq_false c2, decide_eq_false c3]
  repeat' (first
 | with_reducible refine zap ?_ ?_
 | (unfold OKC; kernel_rfl)
 | (unfold EDG; kernel_rfl)
 | (apply cg_tp
    case hl => rfl
    case ha => (simp only [zah, zam, prepV, prepC, idx, hpL', lookR, zaa, if_true, if_false]; rfl)
    case hs => rfl
    case h => (first | exact h1 .. | exact h2 .. | exact h3 .. | exact h4 .. | exact h5 .. | exact h6 ..))
 | (apply cl_plain
    case hs => rfl
    case ha => (simp only [zah, zam, prepV, prepC, idx, hpL', lookR, zaa, if_true, if_false]; rfl)
    case h => (first | exact h1 .. | exact h2 .. | exact h3 .. | exact h4 .. | exact h5 .. | exact h6 ..))
 | ((first | refine s1_id ?_ | refine swp_id ?_ | refine sops_id ?_ | refine s2_id ?_); simp only [decide_eq_false c1, decide_eq_false c2, decide_eq_false c3, hca, hpp, zaA, zaF, zav, zaG, zaJ, zaB, zaC, zay, zaM, zaP, zaz, zaE, go_sem, zaa, zae, zaf, zag, zai, zad, ↓reduceIte, reduceCtorEq, zab, zac, zaj, zak, zal, zaQ, zaL, zax, zaK, renO, bk, back, outUpsFrom, Ints_ren])
 | (intros; omega)
 | (intros; (try simp only [zas, zat, zaq, zar, zan, zao, decide_eq_true_eq, decide_eq_false_iff_not] at *); omega))
  simp only [adV, trV, hla]
  (refine fs_frz 55 ⟨Cs (l ++ [newN n p s]), 6⟩ (by simp only [zaU, lookR, zaa, if_true, if_false, ↓reduceIte]) (by first | exact Ints_isG _ | exact Bools_isG _ | exact Cs_isG _ | (simp [Cell.isG]; done)) ?_; simp only [frzTm, SV.frz, SV.frzL, Cell.frz, frzHp, frzO, Ints_frz, Bools_frz, zah, zam, zaa, if_true, if_false, ↓reduceIte])
  apply fs_nil <;> (try simp only [go_sem, resV, resS, zaQ, zaL, zax, St.tmF, zaU, idx, renO, zaK, evS, slot, lookR, zaa, ↓reduceIte, reduceCtorEq, if_true, if_false, zaN, zaO, zah, zam, sLoad, readAt, readNeed, Ints_ren, Ints_length, Ints_getD, and_true, true_and, zaH, zaI]) <;> (first | rfl | decide | skip)
end Go.Proofs.Ytnahpejlhfeleaa
-- NEWGO
-- PRUNE: cl_lendx cl_use
-- ISG: Cs_isG
-- FLAT: Cs_flat
namespace Go.Proofs.Ytnahpejlhfeleaa
set_option linter.unusedVariables false
set_option linter.unusedSimpArgs false
open Go.Proofs.Ytnahpejlhfeleaa.Sh
set_option maxRecDepth 20000
theorem agg_sl (e : Nat) : (TK.slice e).isAgg = false := rfl
theorem bel_kids (l : List Nd) (g : Int) : (mget (.int .i64 g) (gcN (belowM l)) = none ∧ kidsL l g = []) ∨ mget (.int .i64 g) (gcN (belowM l)) = some (.gsl (Ints (kidsL l g)) 0 (kidsL l g).length none) := by
  have := mget_gc g (belowM l)
  rw [belowM_kg] at this
  exact this
end Go.Proofs.Ytnahpejlhfeleaa
-- NEWGO
-- PRUNE: cl_lendx cl_use
-- ISG: Cs_isG
-- FLAT: hfl
namespace Go.Proofs.Ytnahpejlhfeleaa
set_option linter.unusedVariables false
set_option linter.unusedSimpArgs false
open Go.Proofs.Ytnahpejlhfeleaa.Sh
set_option maxRecDepth 20000
end Go.Proofs.Ytnahpejlhfeleaa
-- NEWGO
-- PRUNE: cl_lendx cl_use
-- ISG: Cs_isG
-- FLAT: hfl
namespace Go.Proofs.Ytnahpejlhfeleaa
set_option linter.unusedVariables false
set_option linter.unusedSimpArgs false
open Go.Proofs.Ytnahpejlhfeleaa.Sh
set_option maxRecDepth 20000
end Go.Proofs.Ytnahpejlhfeleaa
-- NEWGO
-- PRUNE: cl_use cg_ts cg_show
-- ISG: Cs_isG
-- FLAT: Cs_flat
namespace Go.Proofs.Ytnahpejlhfeleaa
set_option linter.unusedVariables false
set_option linter.unusedSimpArgs false
open Go.Proofs.Ytnahpejlhfeleaa.Sh
set_option maxRecDepth 20000
theorem lay_cs (l m : List Nd) (k d : Nat) (hd : d = k * 6) : layAt (Cs l) d (Cs m) = Cs (l.take k ++ m ++ l.drop (k + m.length)) := by
  subst hd
  unfold layAt
  have e1 : (Cs l).take (k * 6) = Cs (l.take k) := Cs_take l k
  have e2 : (Cs l).drop (k * 6 + (Cs m).length) = Cs (l.drop (k + m.length)) := by
    rw [nd_len m, ← Nat.add_mul]; exact Cs_drop l (k + m.length)
  rw [e1, e2, Cs_app, Cs_app]
theorem nd_take (l : List Nd) (k : Nat) : (Cs l).take (k * 6) = Cs (l.take k) := Cs_take l k
theorem nd_drop (l : List Nd) (k : Nat) : (Cs l).drop (k * 6) = Cs (l.drop k) := Cs_drop l k
set_option maxHeartbeats 8000000 in
theorem ndel_spec (l : List Nd) (k : Nat) (hk : k < l.length) (hl : l.length ≤ 1000) : FnSpec Try.prog 43 [.one (.osl 0 0 l.length none), i1 k, i1 (k + 1)] [⟨Cs l, 6⟩] (.one (.gsl (Cs (l.take k ++ l.drop (k + 1))) 0 (l.length - 1) none)) [none] := by
  refine FnSpec.capk (fun c hc => ?_)
  obtain ⟨c, rfl⟩ : ∃ c', c = c' + 1 := ⟨c - 1, by omega⟩
  have hil := nd_len l
  have hkk : ¬ (k : Int) = (k : Int) + 1 := by omega
  have t0 : Int.toNat 0 = 0 := rfl
  have t1 : ((k : Int) + 1).toNat = k + 1 := by omega
  have t2 : k + (l.length - (k + 1)) = l.length - 1 := by omega
  have t3 : l.length - (l.length - 1) = 1 := by omega
  have hr : l.length - 1 ≤ c + 1 := by omega
  have hd1 : List.take ((l.length - (k + 1)) * 6) (Cs (l.drop (k + 1))) = Cs (l.drop (k + 1)) := zaS (by rw [nd_len, zaR]; exact zaV _)
  have hd2 : List.take (l.length - (k + 1)) (l.drop (k + 1)) = l.drop (k + 1) := zaS (by rw [zaR]; exact zaV _)
  have hdl : (Cs (l.drop (k + 1))).length = (l.length - (k + 1)) * 6 := by rw [nd_len, zaR]
  have hM : layAt (Cs l) (k * 6) (Cs (l.drop (k + 1))) = Cs (l.take k ++ l.drop (k + 1) ++ l.drop (l.length - 1)) := by
    have e : k + (l.drop (k + 1)).length = l.length - 1 := by rw [zaR]; omega
    rw [lay_cs l (l.drop (k + 1)) k _ rfl, e]
  have hL : (l.take k ++ l.drop (k + 1)).length = l.length - 1 := by rw [zaT, List.length_take, zaR]; omega
  have hML : (Cs (l.take k ++ l.drop (k + 1) ++ l.drop (l.length - 1))).length = l.length * 6 := by
    rw [nd_len, zaT, hL, zaR]; congr 1; omega
  have hN : layAt (Cs (l.take k ++ l.drop (k + 1) ++ l.drop (l.length - 1))) ((l.length - 1) * 6) (Cs [zn]) = Cs (l.take k ++ l.drop (k + 1) ++ [zn]) := by
    rw [lay_cs _ [zn] (l.length - 1) _ rfl]
    have e1 : (l.take k ++ l.drop (k + 1) ++ l.drop (l.length - 1)).take (l.length - 1) = l.take k ++ l.drop (k + 1) := by
      rw [List.take_append_of_le_length (by omega), zaS (by omega)]
    have e2 : (l.take k ++ l.drop (k + 1) ++ l.drop (l.length - 1)).drop (l.length - 1 + [zn].length) = [] := List.drop_of_length_le (by rw [zaT, hL, zaR]; simp only [zaz, zaE]; omega)
    rw [e1, e2, zav]
  have hN' : layAt (Cs (l.take k ++ l.drop (k + 1) ++ l.drop (l.length - 1))) ((l.length - 1) * 6) [Cell.sc (Value.int IntKind.i64 0), Cell.sc (Value.int IntKind.i64 0), Cell.sc (Value.string (bs [])), Cell.sc (Value.int IntKind.i64 0), Cell.sc (Value.int IntKind.i64 0), Cell.sc (Value.int IntKind.i64 0)] = Cs (l.take k ++ l.drop (k + 1) ++ [zn]) := hN
  have hT : (Cs (l.take k ++ l.drop (k + 1) ++ [zn])).take ((l.length - 1) * 6) = Cs (l.take k ++ l.drop (k + 1)) := by
    rw [nd_take, List.take_append_of_le_length (by omega), zaS (by omega)]
  refine fnspec_of mixed TT_ok TT_cl ⟨fun _ => false, fun _ => [], 1, fun _ => false, fun _ => false⟩ Try.func43 rfl (by kernel_rfl) rfl 33 rfl [.tmp 6] rfl ?_
  simp only [go_sem, zaa, zae, zaf, zag, zai, zad, ↓reduceIte, reduceCtorEq, zab, zac, zaj, zak, zal, hil, decide_eq_false hkk, t0, t1, t2, t3, hr, hd1, hd2, hdl, hM, hN', zaA, zaF, zav, Nat.zero_mul, Nat.sub_zero, nd_take, nd_drop]
  repeat' (first
 | with_reducible refine zap ?_ ?_
 | (unfold OKC; kernel_rfl)
 | (unfold EDG; kernel_rfl)
 | (intros; omega)
 | (intros; (try simp only [zas, zat, zaq, zar, zan, zao, decide_eq_true_eq, decide_eq_false_iff_not] at *); omega))
  all_goals try (intro row hrow; cases hrow; rfl)
  refine fs_res (res0 := .one (.gsl (Cs (l.take k ++ l.drop (k + 1) ++ [zn])) 0 (l.length - 1) (some (c + 1)))) (svw_of (by
    rw [← hT]
    exact cw_trans (cw_take _ _ _ _ _) (cw_cap _ _ _ _))) ?_
  refine fs_frz 0 ⟨Cs (l.take k ++ l.drop (k + 1) ++ [zn]), 6⟩ (by first | (simp only [zaU, lookR, zaa, if_true, if_false, ↓reduceIte, reduceCtorEq]; done) | rfl) (Cs_isG _) ?_
  simp only [frzTm, SV.frz, SV.frzL, Cell.frz, frzHp, frzO, Cs_frz, zah, zam, zaa, if_true, if_false, ↓reduceIte]
  (refine fs_mk [0] (by simp) (by decide) (by simp only [go_sem, resV, resS, zaQ, zaL, zax, St.tmF, zaU, idx, renO, zaK, evS, slot, lookR, zaa, ↓reduceIte, reduceCtorEq, if_true, if_false, zaN, zaO, zah, zam, sLoad, readAt, readNeed, Ints_ren, Ints_length, Ints_getD, and_true, true_and, zaH, zaI]; try decide) ?_ ?_ ?_ <;> (try simp only [go_sem, resV, resS, zaQ, zaL, zax, St.tmF, zaU, idx, renO, zaK, evS, slot, lookR, zaa, ↓reduceIte, reduceCtorEq, if_true, if_false, zaN, zaO, zah, zam, sLoad, readAt, readNeed, Ints_ren, Ints_length, Ints_getD, and_true, true_and, zaH, zaI, zaU, lookR, renO, zaK, zax, idx, zah, zam, Ints_ren, zaw, zaD, false_implies, implies_true, Option.some.injEq, forall_eq', and_true, true_and, frzHp, frzO, Cs_ren]) <;> (try rfl) <;> (try ((repeat' apply zap) <;> (first | trivial | exact fun c hc q hq => absurd hq (Ints_refs0 _ _ c hc) | (simp [Cell.refs]; done)))))
end Go.Proofs.Ytnahpejlhfeleaa
-- NEWGO
-- PRUNE: cl_lendx cl_use cg_ts
-- ISG: Cs_isG
-- FLAT: Cs_flat
namespace Go.Proofs.Ytnahpejlhfeleaa
set_option linter.unusedVariables false
set_option linter.unusedSimpArgs false
open Go.Proofs.Ytnahpejlhfeleaa.Sh
set_option maxRecDepth 20000
theorem rmN_app (a b : List Nd) (id : Int) : rmN (a ++ b) id = rmN a id ++ rmN b id := List.filter_append ..
theorem rmN_all {a : List Nd} {id : Int} (h : ∀ x ∈ a, x.i ≠ id) : rmN a id = a := List.filter_eq_self.2 fun x hx => by
  simp only [zaq, decide_eq_false_iff_not]
  exact h x hx
theorem rmN_ix {l : List Nd} {n : Int} (h : VT l n) {i : Nat} (hi : i < l.length) : rmN l (gN l i).i = l.take i ++ l.drop (i + 1) := by
  have hs : l = l.take i ++ gN l i :: l.drop (i + 1) := by
    conv => lhs; rw [← List.take_append_drop i l]
    rw [drop_getD l i zn hi]
  have h1 : ∀ x ∈ l.take i, x.i ≠ (gN l i).i := fun x hx => by
    obtain ⟨j, hj, rfl⟩ := List.mem_iff_getElem.1 hx
    rw [List.length_take] at hj
    rw [List.getElem_take, ← getD_at l j zn (by omega)]
    have := h.asc j i (by omega) hi
    show (gN l j).i ≠ _
    omega
  have h2 : ∀ x ∈ l.drop (i + 1), x.i ≠ (gN l i).i := fun x hx => by
    obtain ⟨j, hj, rfl⟩ := List.mem_iff_getElem.1 hx
    rw [zaR] at hj
    rw [List.getElem_drop, ← getD_at l (i + 1 + j) zn (by omega)]
    have := h.asc i (i + 1 + j) (by omega) (by omega)
    show (gN l (i + 1 + j)).i ≠ _
    omega
  generalize hq : (gN l i).i = q at *
  conv => lhs; rw [hs]
  rw [rmN_app, rmN_all h1]
  have h3 : rmN (gN l i :: l.drop (i + 1)) q = rmN (l.drop (i + 1)) q := List.filter_cons_of_neg (by rw [hq]; simp)
  rw [h3, rmN_all h2]
set_option maxHeartbeats 16000000 in
theorem trem_spec (l : List Nd) (n id : Int) (hl : l.length ≤ 1000000) (hnm : NmR l) (hct : CtR l) : FnSpec Try.prog 17 [trV l none n, i1 id] [] (rmV (rmM l n id)) [] := by
  have h1 := tchk_spec l n hl hnm hct
  unfold rmM
  cases hc : chkT l n with
  | false =>
    rw [hc] at h1
    rw [if_pos rfl]
    refine fnspec_of mixed TT_ok TT_cl ⟨fun _ => false, fun _ => [], 0, fun _ => false, fun _ => false⟩ Try.func17 rfl (by kernel_rfl) rfl 42 rfl [.cell 4 29, .tmp 5] rfl ?_
    simp only [go_sem, zaa, zae, zaf, zag, zai, zad, ↓reduceIte, reduceCtorEq, zab, zac, zaj, zak, zal]
    repeat' (first
 | (apply cl_plain
    case hs => rfl
    case ha => (simp only [zah, zam, prepV, prepC, idx, hpL', lookR, zaa, if_true, if_false]; rfl)
    case h => (first | exact h1 ..))
 | ((first | refine s1_id ?_ | refine swp_id ?_ | refine sops_id ?_ | refine s2_id ?_); simp only [zaA, zaF, zav, zaG, zaJ, zaB, zaC, zay, zaM, zaP, zaz, zaE, go_sem, zaa, zae, zaf, zag, zai, zad, ↓reduceIte, reduceCtorEq, zab, zac, zaj, zak, zal, zaQ, zaL, zax, zaK, renO, bk, back, outUpsFrom, Ints_ren])
 | (intros; (try simp only [zas, zat, zaq, zar, zan, zao, decide_eq_true_eq, decide_eq_false_iff_not] at *); omega))
    repeat' (first
 | (refine fs_w ?h1 (svw_of ?h2); (case h1 => repeat' (first | exact trivial | exact rfl | exact zau rfl | apply zap)); (case h2 => repeat' (first | ((with_reducible refine (?_ : CW _ _)); first | exact cw_gnil | exact cw_rfl _ | exact cw_niln _ _ | exact cw_cap _ _ _ _) | exact trivial | (show _ ∧ SWL _ _; apply zap) | (show _ ∧ CWL _ _; apply zap) | show CW _ _)))
 | fail)
  | true =>
  rw [hc] at h1
  rw [if_neg (by decide)]
  have hV := (chkT_iff l n).1 hc
  have h3 := index_spec l none id hl
  have hhb := hasM_bs (id := id) hV
  have hbv := bsF_at Nd.i l id
  cases hh : hasM l n id with
  | false =>
    rw [← hhb, hh] at h3
    rw [if_pos rfl]
    generalize bsV Nd.i l id = v at *
    refine fnspec_of mixed TT_ok TT_cl ⟨fun _ => false, fun _ => [], 0, fun _ => false, fun _ => false⟩ Try.func17 rfl (by kernel_rfl) rfl 42 rfl [.cell 4 29, .tmp 5] rfl ?_
    simp only [go_sem, zaa, zae, zaf, zag, zai, zad, ↓reduceIte, reduceCtorEq, zab, zac, zaj, zak, zal]
    repeat' (first
 | (apply cl_plain
    case hs => rfl
    case ha => (simp only [zah, zam, prepV, prepC, idx, hpL', lookR, zaa, if_true, if_false]; rfl)
    case h => (first | exact h1 .. | exact h3 ..))
 | ((first | refine s1_id ?_ | refine swp_id ?_ | refine sops_id ?_ | refine s2_id ?_); simp only [zaA, zaF, zav, zaG, zaJ, zaB, zaC, zay, zaM, zaP, zaz, zaE, go_sem, zaa, zae, zaf, zag, zai, zad, ↓reduceIte, reduceCtorEq, zab, zac, zaj, zak, zal, zaQ, zaL, zax, zaK, renO, bk, back, outUpsFrom, Ints_ren])
 | (intros; (try simp only [zas, zat, zaq, zar, zan, zao, decide_eq_true_eq, decide_eq_false_iff_not] at *); omega))
    repeat' (first
 | (refine fs_w ?h1 (svw_of ?h2); (case h1 => repeat' (first | exact trivial | exact rfl | exact zau rfl | apply zap)); (case h2 => repeat' (first | ((with_reducible refine (?_ : CW _ _)); first | exact cw_gnil | exact cw_rfl _ | exact cw_niln _ _ | exact cw_cap _ _ _ _) | exact trivial | (show _ ∧ SWL _ _; apply zap) | (show _ ∧ CWL _ _; apply zap) | show CW _ _)))
 | fail)
  | true =>
  rw [← hhb, hh] at h3
  rw [if_neg (by decide)]
  obtain ⟨hv1, hv2⟩ := hbv (by rw [← hhb]; exact hh)
  have hv2 : (gN l (bsV Nd.i l id)).i = id := hv2
  generalize bsV Nd.i l id = v at *
  by_cases hi1 : id = 1
  · rw [if_pos hi1]
    refine fnspec_of mixed TT_ok TT_cl ⟨fun _ => false, fun _ => [], 0, fun _ => false, fun _ => false⟩ Try.func17 rfl (by kernel_rfl) rfl 42 rfl [.cell 4 29, .tmp 5] rfl ?_
    simp only [go_sem, zaa, zae, zaf, zag, zai, zad, ↓reduceIte, reduceCtorEq, zab, zac, zaj, zak, zal, decide_eq_true hi1]
    repeat' (first
 | (apply cl_plain
    case hs => rfl
    case ha => (simp only [zah, zam, prepV, prepC, idx, hpL', lookR, zaa, if_true, if_false]; rfl)
    case h => (first | exact h1 .. | exact h3 ..))
 | ((first | refine s1_id ?_ | refine swp_id ?_ | refine sops_id ?_ | refine s2_id ?_); simp only [decide_eq_true hi1, zaA, zaF, zav, zaG, zaJ, zaB, zaC, zay, zaM, zaP, zaz, zaE, go_sem, zaa, zae, zaf, zag, zai, zad, ↓reduceIte, reduceCtorEq, zab, zac, zaj, zak, zal, zaQ, zaL, zax, zaK, renO, bk, back, outUpsFrom, Ints_ren])
 | (intros; (try simp only [zas, zat, zaq, zar, zan, zao, decide_eq_true_eq, decide_eq_false_iff_not] at *); omega))
    repeat' (first
 | (refine fs_w ?h1 (svw_of ?h2); (case h1 => repeat' (first | exact trivial | exact rfl | exact zau rfl | apply zap)); (case h2 => repeat' (first | ((with_reducible refine (?_ : CW _ _)); first | exact cw_gnil | exact cw_rfl _ | exact cw_niln _ _ | exact cw_cap _ _ _ _) | exact trivial | (show _ ∧ SWL _ _; apply zap) | (show _ ∧ CWL _ _; apply zap) | show CW _ _)))
 | fail)
  rw [if_neg hi1]
  have h2 := below_spec l n hV.le
  have hmk := mkeys_gc (belowM l)
  have hk := bel_kids l id
  have hren : ∀ ρ, (gcN (belowM l)).map (zax ρ) = gcN (belowM l) := fun ρ => flat_ren (gcN_flat _) ρ
  have hcm : chM l n id = kidsL l id := by unfold chM; rw [hh, if_pos rfl]
  rw [hcm]
  have hle := hV.le
  have h6 := nd_cl l none hl
  have h7 := ndel_spec l v hv1 (by omega)
  have hrm := rmN_ix hV hv1
  rw [hv2] at hrm
  rw [← hrm] at h7
  have hrl : (rmN l id).length = l.length - 1 := by
    rw [hrm, zaT, List.length_take, zaR]; omega
  generalize rmN l id = R at *
  generalize kidsL l id = K at *
  generalize gcN (belowM l) = M at *
  clear hrm
  have hz : ¬ ((0 : Int) < 0) := by omega
  rcases hk with ⟨e1, rfl⟩ | e1
  · rw [if_neg (by decide)]
    refine fnspec_of mixed TT_ok TT_cl ⟨fun _ => false, fun f => if f = 43 then [0] else [], 0, fun _ => false, fun _ => false⟩ Try.func17 rfl (by kernel_rfl) rfl 42 rfl [.cell 4 29, .tmp 5] rfl ?_
    simp only [go_sem, zaa, zae, zaf, zag, zai, zad, ↓reduceIte, reduceCtorEq, zab, zac, zaj, zak, zal, e1, hmk, hren, decide_eq_false hi1, agg_sl, mval_none]
    repeat' (first
 | with_reducible refine zap ?_ ?_
 | (unfold OKC; kernel_rfl)
 | (unfold EDG; kernel_rfl)
 | (apply cl_plain
    case hs => rfl
    case ha => (simp only [zah, zam, prepV, prepC, idx, hpL', lookR, zaa, if_true, if_false]; rfl)
    case h => (first | exact h1 .. | exact h2 .. | exact h3 .. | exact h6 .. | exact h7 ..))
 | (apply cl_lend
    case hr => (simp only [zah, zam, hpL', lookR, zaa, if_true, if_false]; first | exact map1 _ | exact map2 _ _ | exact map3 _ _ _)
    case ha => (simp only [zah, zam, prepV, prepC, idx, hpL', lookR, zaa, if_true, if_false]; rfl)
    case hs => rfl
    case hn => decide
    case h => (first | exact h1 .. | exact h2 .. | exact h3 .. | exact h6 .. | exact h7 ..)
    case hf => (simp only [zaw, zaD, false_implies, implies_true, and_true, true_and, flat_cons, flat_nil, flat_ints, flat_bools, flat_app, Cs_flat, Cell.refs, and_self, eq_self_iff_true, zav])
    case hl => (simp only [zaz, zaE]; decide))
 | ((first | refine s1_id ?_ | refine swp_id ?_ | refine sops_id ?_ | refine s2_id ?_); simp only [e1, hmk, hren, decide_eq_false hi1, agg_sl, mval_none, zaA, zaF, zav, zaG, zaJ, zaB, zaC, zay, zaM, zaP, zaz, zaE, go_sem, zaa, zae, zaf, zag, zai, zad, ↓reduceIte, reduceCtorEq, zab, zac, zaj, zak, zal, zaQ, zaL, zax, zaK, renO, bk, back, outUpsFrom, Ints_ren])
 | (intros; omega)
 | (intros; (try simp only [zas, zat, zaq, zar, zan, zao, decide_eq_true_eq, decide_eq_false_iff_not] at *); omega))
    rw [show rmV ((R, n), 0) = .tup [.agg [.gsl (Cs R) 0 (l.length - 1) none, int n], i1 0] from by rw [← hrl]]
    repeat' (first
 | (refine fs_w ?h1 (svw_of ?h2); (case h1 => repeat' (first | exact trivial | exact rfl | exact zau rfl | apply zap)); (case h2 => repeat' (first | ((with_reducible refine (?_ : CW _ _)); first | exact cw_gnil | exact cw_rfl _ | exact cw_niln _ _ | exact cw_cap _ _ _ _) | exact trivial | (show _ ∧ SWL _ _; apply zap) | (show _ ∧ CWL _ _; apply zap) | show CW _ _)))
 | fail)
  · by_cases c : 0 < (K.length : Int)
    · rw [if_pos c]
      refine fnspec_of mixed TT_ok TT_cl ⟨fun _ => false, fun _ => [], 0, fun _ => false, fun _ => false⟩ Try.func17 rfl (by kernel_rfl) rfl 42 rfl [.cell 4 29, .tmp 5] rfl ?_
      simp only [go_sem, zaa, zae, zaf, zag, zai, zad, ↓reduceIte, reduceCtorEq, zab, zac, zaj, zak, zal, e1, hmk, hren, decide_eq_false hi1, decide_eq_true c, agg_sl, mval_some]
      repeat' (first
 | (apply cl_plain
    case hs => rfl
    case ha => (simp only [zah, zam, prepV, prepC, idx, hpL', lookR, zaa, if_true, if_false]; rfl)
    case h => (first | exact h1 .. | exact h2 .. | exact h3 ..))
 | ((first | refine s1_id ?_ | refine swp_id ?_ | refine sops_id ?_ | refine s2_id ?_); simp only [e1, hmk, hren, decide_eq_false hi1, decide_eq_true c, agg_sl, mval_some, zaA, zaF, zav, zaG, zaJ, zaB, zaC, zay, zaM, zaP, zaz, zaE, go_sem, zaa, zae, zaf, zag, zai, zad, ↓reduceIte, reduceCtorEq, zab, zac, zaj, zak, zal, zaQ, zaL, zax, zaK, renO, bk, back, outUpsFrom, Ints_ren])
 | (intros; (try simp only [zas, zat, zaq, zar, zan, zao, decide_eq_true_eq, decide_eq_false_iff_not] at *); omega))
      repeat' (first
 | (refine fs_w ?h1 (svw_of ?h2); (case h1 => repeat' (first | exact trivial | exact rfl | exact zau rfl | apply zap)); (case h2 => repeat' (first | ((with_reducible refine (?_ : CW _ _)); first | exact cw_gnil | exact cw_rfl _ | exact cw_niln _ _ | exact cw_cap _ _ _ _) | exact trivial | (show _ ∧ SWL _ _; apply zap) | (show _ ∧ CWL _ _; apply zap) | show CW _ _)))
 | fail)
    · rw [if_neg c]
      refine fnspec_of mixed TT_ok TT_cl ⟨fun _ => false, fun f => if f = 43 then [0] else [], 0, fun _ => false, fun _ => false⟩ Try.func17 rfl (by kernel_rfl) rfl 42 rfl [.cell 4 29, .tmp 5] rfl ?_
      simp only [go_sem, zaa, zae, zaf, zag, zai, zad, ↓reduceIte, reduceCtorEq, zab, zac, zaj, zak, zal, e1, hmk, hren, decide_eq_false hi1, decide_eq_false c, agg_sl, mval_some]
      repeat' (first
 | with_reducible refine zap ?_ ?_
 | (unfold OKC; kernel_rfl)
 | (unfold EDG; kernel_rfl)
 | (apply cl_plain
    case hs => rfl
    case ha => (simp only [zah, zam, prepV, prepC, idx, hpL', lookR, zaa, if_true, if_false]; rfl)
    case h => (first | exact h1 .. | exact h2 .. | exact h3 .. | exact h6 .. | exact h7 ..))
 | (apply cl_lend
    case hr => (simp only [zah, zam, hpL', lookR, zaa, if_true, if_false]; first | exact map1 _ | exact map2 _ _ | exact map3 _ _ _)
    case ha => (simp only [zah, zam, prepV, prepC, idx, hpL', lookR, zaa, if_true, if_false]; rfl)
    case hs => rfl
    case hn => decide
    case h => (first | exact h1 .. | exact h2 .. | exact h3 .. | exact h6 .. | exact h7 ..)
    case hf => (simp only [zaw, zaD, false_implies, implies_true, and_true, true_and, flat_cons, flat_nil, flat_ints, flat_bools, flat_app, Cs_flat, Cell.refs, and_self, eq_self_iff_true, zav])
    case hl => (simp only [zaz, zaE]; decide))
 | ((first | refine s1_id ?_ | refine swp_id ?_ | refine sops_id ?_ | refine s2_id ?_); simp only [e1, hmk, hren, decide_eq_false hi1, decide_eq_false c, agg_sl, mval_some, zaA, zaF, zav, zaG, zaJ, zaB, zaC, zay, zaM, zaP, zaz, zaE, go_sem, zaa, zae, zaf, zag, zai, zad, ↓reduceIte, reduceCtorEq, zab, zac, zaj, zak, zal, zaQ, zaL, zax, zaK, renO, bk, back, outUpsFrom, Ints_ren])
 | (intros; omega)
 | (intros; (try simp only [zas, zat, zaq, zar, zan, zao, decide_eq_true_eq, decide_eq_false_iff_not] at *); omega))
      rw [show rmV ((R, n), 0) = .tup [.agg [.gsl (Cs R) 0 (l.length - 1) none, int n], i1 0] from by rw [← hrl]]
      repeat' (first
 | (refine fs_w ?h1 (svw_of ?h2); (case h1 => repeat' (first | exact trivial | exact rfl | exact zau rfl | apply zap)); (case h2 => repeat' (first | ((with_reducible refine (?_ : CW _ _)); first | exact cw_gnil | exact cw_rfl _ | exact cw_niln _ _ | exact cw_cap _ _ _ _) | exact trivial | (show _ ∧ SWL _ _; apply zap) | (show _ ∧ CWL _ _; apply zap) | show CW _ _)))
 | fail)
end Go.Proofs.Ytnahpejlhfeleaa
-- NEWGO
-- PRUNE: cl_lendx cl_use cl_lend
-- ISG: Strs_isG
namespace Go.Proofs.Ytnahpejlhfeleaa
set_option linter.unusedVariables false
set_option linter.unusedSimpArgs false
open Go.Proofs.Ytnahpejlhfeleaa.Sh
set_option maxRecDepth 20000
def ixP (q : Str → Bool) : List Str → Nat → Int
  | [], _ => -1
  | b :: r, i => if q b = true then (i : Int) else ixP q r (i + 1)
theorem ixP_any (q : Str → Bool) : ∀ s i, decide (0 ≤ ixP q s i) = s.any q
  | [], i => rfl
  | b :: r, i => by
    unfold ixP
    by_cases h : q b = true
    · rw [if_pos h, List.any_cons, h, decide_eq_true (by omega)]; rfl
    · rw [if_neg h, List.any_cons, Bool.eq_false_iff.2 h, ixP_any q r (i + 1)]; rfl
theorem dropP_at (s : List Str) (i : Nat) (h : i < s.length) : s.drop i = s.getD i [] :: s.drop (i + 1) := by
  rw [List.drop_eq_getElem_cons h, List.getD_eq_getElem?_getD, List.getElem?_eq_getElem h]
  rfl
set_option maxHeartbeats 4000000 in
theorem indexS_spec (g : FuncId) (q : Str → Bool) (xs : List Str) (hg : ∀ s ∈ xs, FnSpec Try.prog g [s1 s] [] (b1 (q s)) []) (cap : Option Nat)
    (hs : xs.length ≤ 9223372036854775807) : FnSpec Try.prog 83 [gs xs cap, .one (.fn g [])] [] (i1 (ixP q xs 0)) [] := by
  refine fnspec_of mixed TT_ok TT_cl ⟨fun _ => false, fun _ => [], 0, fun _ => false, fun _ => false⟩ Try.func83 rfl (by kernel_rfl) rfl 19 rfl [.tmp 4] rfl ?_
  simp only [go_sem, zaa, zae, zaf, zag, zai, zad, ↓reduceIte, reduceCtorEq, zab, zac, zaj, zak, zal]
  repeat' (first
 | (intros; (try simp only [zas, zat, zaq, zar, zan, zao, decide_eq_true_eq, decide_eq_false_iff_not] at *); omega))
  refine w_loop (ι := Nat) (fun i => ⟨[(0, gs xs cap), (1, .one (.fn g [])), (7, i1 xs.length), (8, i1 i)], [], 0⟩) (fun i => i ≤ xs.length ∧ ixP q xs 0 = ixP q (xs.drop i) i) (fun i => xs.length - i) 0 ?_ ⟨Nat.zero_le _, rfl⟩ ?_
  · (refine imp_sub _ _ _ [] (by simp) (by simp) (by simp) (Nat.zero_le _) ?_ rfl (by simp); simp only [zaw, zaD, false_implies, implies_true, and_true, lk, slot, zaQ, zax, zaa, if_true, if_false, ↓reduceIte, reduceCtorEq])
    all_goals ((repeat' apply zap) <;> (first | rfl | trivial))
  rintro i ⟨hi, he⟩
  simp only at hi he ⊢
  rcases Nat.lt_or_ge i xs.length with hlt | hge
  case inr =>
    have hlt' : ¬ (i : Int) < (xs.length : Int) := by omega
    rw [List.drop_of_length_le hge] at he
    rw [he]
    simp only [go_sem, zaa, zae, zaf, zag, zai, zad, ↓reduceIte, reduceCtorEq, zab, zac, zaj, zak, zal, decide_eq_false hlt', ixP]
    repeat' (first
 | exact fs_nil trivial rfl
 | fail)
  have hlt' : (i : Int) < (xs.length : Int) := by omega
  rw [dropP_at xs i hlt, ixP] at he
  have hat := Strs_getD' xs i (.sc (.string (bs []))) hlt
  have hm : xs.getD i [] ∈ xs := by
    rw [List.getD_eq_getElem?_getD, List.getElem?_eq_getElem hlt]
    exact List.getElem_mem hlt
  have hc := hg _ hm
  generalize xs.getD i [] = b at *
  cases hqb : q b with
  | true =>
    rw [hqb] at hc he
    simp only [if_true] at he
    rw [he]
    simp only [go_sem, zaa, zae, zaf, zag, zai, zad, ↓reduceIte, reduceCtorEq, zab, zac, zaj, zak, zal, decide_eq_true hlt', hat]
    repeat' (first
 | with_reducible refine zap ?_ ?_
 | (apply cl_plain
    case hs => rfl
    case ha => (simp only [zah, zam, prepV, prepC, idx, hpL', lookR, zaa, if_true, if_false]; rfl)
    case h => (first | exact hc ..))
 | ((first | refine s1_id ?_ | refine swp_id ?_ | refine sops_id ?_ | refine s2_id ?_); simp only [decide_eq_true hlt', hat, go_sem, zaa, zae, zaf, zag, zai, zad, ↓reduceIte, reduceCtorEq, zab, zac, zaj, zak, zal, zaQ, zaL, zax, zaK, renO, bk, back, outUpsFrom, Ints_ren])
 | (intros; omega)
 | exact fs_nil trivial rfl
 | fail)
  | false =>
    rw [hqb] at hc he
    simp only [Bool.false_eq_true, if_false] at he
    simp only [go_sem, zaa, zae, zaf, zag, zai, zad, ↓reduceIte, reduceCtorEq, zab, zac, zaj, zak, zal, decide_eq_true hlt', hat]
    repeat' (first
 | with_reducible refine zap ?_ ?_
 | (apply cl_plain
    case hs => rfl
    case ha => (simp only [zah, zam, prepV, prepC, idx, hpL', lookR, zaa, if_true, if_false]; rfl)
    case h => (first | exact hc ..))
 | ((first | refine s1_id ?_ | refine swp_id ?_ | refine sops_id ?_ | refine s2_id ?_); simp only [decide_eq_true hlt', hat, go_sem, zaa, zae, zaf, zag, zai, zad, ↓reduceIte, reduceCtorEq, zab, zac, zaj, zak, zal, zaQ, zaL, zax, zaK, renO, bk, back, outUpsFrom, Ints_ren])
 | (intros; omega)
 | (intros; (try simp only [zas, zat, zaq, zar, zan, zao, decide_eq_true_eq, decide_eq_false_iff_not] at *); omega))
    refine le_mk (i + 1) ?_ ⟨by omega, he⟩ (by omega)
    (refine imp_sub _ _ _ [] (by simp) (by simp) (by simp) (Nat.zero_le _) ?_ rfl (by simp); simp only [zaw, zaD, false_implies, implies_true, and_true, lk, slot, zaQ, zax, zaa, if_true, if_false, ↓reduceIte, reduceCtorEq])
    all_goals ((repeat' apply zap) <;> (first | rfl | trivial | (simp only [Int.natCast_add]; done) | (simp only [Int.natCast_add]; rfl) | (simp only [Int.natCast_add]; trivial)))
theorem contS_spec (g : FuncId) (q : Str → Bool) (xs : List Str) (hg : ∀ s ∈ xs, FnSpec Try.prog g [s1 s] [] (b1 (q s)) []) (cap : Option Nat)
    (hs : xs.length ≤ 9223372036854775807) : FnSpec Try.prog 78 [gs xs cap, .one (.fn g [])] [] (b1 (xs.any q)) [] := by
  have h1 := indexS_spec g q xs hg cap hs
  rw [← ixP_any q xs 0]
  refine fnspec_of mixed TT_ok TT_cl ⟨fun _ => false, fun _ => [], 0, fun _ => false, fun _ => false⟩ Try.func78 rfl (by kernel_rfl) rfl 9 rfl [.tmp 4] rfl ?_
  simp only [go_sem, zaa, zae, zaf, zag, zai, zad, ↓reduceIte, reduceCtorEq, zab, zac, zaj, zak, zal]
  repeat' (first
 | (apply cl_plain
    case hs => rfl
    case ha => (simp only [zah, zam, prepV, prepC, idx, hpL', lookR, zaa, if_true, if_false]; rfl)
    case h => (first | exact h1 ..))
 | ((first | refine s1_id ?_ | refine swp_id ?_ | refine sops_id ?_ | refine s2_id ?_); simp only [go_sem, zaa, zae, zaf, zag, zai, zad, ↓reduceIte, reduceCtorEq, zab, zac, zaj, zak, zal, zaQ, zaL, zax, zaK, renO, bk, back, outUpsFrom, Ints_ren])
 | exact fs_nil trivial rfl
 | fail)
theorem strangeS_spec (s : Str) (hs : s.length ≤ 9223372036854775807) : FnSpec Try.prog 77 [s1 s] [] (b1 (!nmOk s)) [] := by
  have h1 := valid_spec s hs
  refine fnspec_of mixed TT_ok TT_cl ⟨fun _ => false, fun _ => [], 0, fun _ => false, fun _ => false⟩ Try.func77 rfl (by kernel_rfl) rfl 6 rfl [.tmp 2] rfl ?_
  simp only [go_sem, zaa, zae, zaf, zag, zai, zad, ↓reduceIte, reduceCtorEq, zab, zac, zaj, zak, zal]
  repeat' (first
 | (apply cl_plain
    case hs => rfl
    case ha => (simp only [zah, zam, prepV, prepC, idx, hpL', lookR, zaa, if_true, if_false]; rfl)
    case h => (first | exact h1 ..))
 | ((first | refine s1_id ?_ | refine swp_id ?_ | refine sops_id ?_ | refine s2_id ?_); simp only [go_sem, zaa, zae, zaf, zag, zai, zad, ↓reduceIte, reduceCtorEq, zab, zac, zaj, zak, zal, zaQ, zaL, zax, zaK, renO, bk, back, outUpsFrom, Ints_ren])
 | exact fs_nil trivial rfl
 | fail)
def chkP (xs : List Str) : Int := if xs.any (fun s => !nmOk s) = true then 2 else if 8 < (xs.length : Int) then 7 else 0
theorem checkN_spec (xs : List Str) (hx : ∀ s ∈ xs, s.length ≤ 9223372036854775807) (cap : Option Nat)
    (hs : xs.length ≤ 9223372036854775807) : FnSpec Try.prog 68 [gs xs cap] [] (i1 (chkP xs)) [] := by
  have h1 := contS_spec 77 (fun s => !nmOk s) xs (fun s h => strangeS_spec s (hx s h)) cap hs
  unfold chkP
  cases ha : xs.any (fun s => !nmOk s) with
  | true =>
    rw [ha] at h1
    rw [if_pos rfl]
    refine fnspec_of mixed TT_ok TT_cl ⟨fun _ => false, fun _ => [], 0, fun _ => false, fun _ => false⟩ Try.func68 rfl (by kernel_rfl) rfl 10 rfl [.tmp 2] rfl ?_
    simp only [go_sem, zaa, zae, zaf, zag, zai, zad, ↓reduceIte, reduceCtorEq, zab, zac, zaj, zak, zal]
    repeat' (first
 | (apply cl_plain
    case hs => rfl
    case ha => (simp only [zah, zam, prepV, prepC, idx, hpL', lookR, zaa, if_true, if_false]; rfl)
    case h => (first | exact h1 ..))
 | ((first | refine s1_id ?_ | refine swp_id ?_ | refine sops_id ?_ | refine s2_id ?_); simp only [go_sem, zaa, zae, zaf, zag, zai, zad, ↓reduceIte, reduceCtorEq, zab, zac, zaj, zak, zal, zaQ, zaL, zax, zaK, renO, bk, back, outUpsFrom, Ints_ren])
 | exact fs_nil trivial rfl
 | fail)
  | false =>
    rw [ha] at h1
    rw [if_neg Bool.false_ne_true]
    by_cases hb : 8 < (xs.length : Int)
    · rw [if_pos hb]
      refine fnspec_of mixed TT_ok TT_cl ⟨fun _ => false, fun _ => [], 0, fun _ => false, fun _ => false⟩ Try.func68 rfl (by kernel_rfl) rfl 10 rfl [.tmp 2] rfl ?_
      simp only [go_sem, zaa, zae, zaf, zag, zai, zad, ↓reduceIte, reduceCtorEq, zab, zac, zaj, zak, zal, decide_eq_true hb]
      repeat' (first
 | (apply cl_plain
    case hs => rfl
    case ha => (simp only [zah, zam, prepV, prepC, idx, hpL', lookR, zaa, if_true, if_false]; rfl)
    case h => (first | exact h1 ..))
 | ((first | refine s1_id ?_ | refine swp_id ?_ | refine sops_id ?_ | refine s2_id ?_); simp only [decide_eq_true hb, go_sem, zaa, zae, zaf, zag, zai, zad, ↓reduceIte, reduceCtorEq, zab, zac, zaj, zak, zal, zaQ, zaL, zax, zaK, renO, bk, back, outUpsFrom, Ints_ren])
 | exact fs_nil trivial rfl
 | fail)
    · rw [if_neg hb]
      refine fnspec_of mixed TT_ok TT_cl ⟨fun _ => false, fun _ => [], 0, fun _ => false, fun _ => false⟩ Try.func68 rfl (by kernel_rfl) rfl 10 rfl [.tmp 2] rfl ?_
      simp only [go_sem, zaa, zae, zaf, zag, zai, zad, ↓reduceIte, reduceCtorEq, zab, zac, zaj, zak, zal, decide_eq_false hb]
      repeat' (first
 | (apply cl_plain
    case hs => rfl
    case ha => (simp only [zah, zam, prepV, prepC, idx, hpL', lookR, zaa, if_true, if_false]; rfl)
    case h => (first | exact h1 ..))
 | ((first | refine s1_id ?_ | refine swp_id ?_ | refine sops_id ?_ | refine s2_id ?_); simp only [decide_eq_false hb, go_sem, zaa, zae, zaf, zag, zai, zad, ↓reduceIte, reduceCtorEq, zab, zac, zaj, zak, zal, zaQ, zaL, zax, zaK, renO, bk, back, outUpsFrom, Ints_ren])
 | exact fs_nil trivial rfl
 | fail)
def cnt (c : UInt8) (s : Str) : Nat := s.count c
end Go.Proofs.Ytnahpejlhfeleaa
-- NEWGO
-- PRUNE: cl_lendx cl_use cl_lend
-- ISG: Strs_isG
-- FLAT: Strs_flat
namespace Go.Proofs.Ytnahpejlhfeleaa
set_option linter.unusedVariables false
set_option linter.unusedSimpArgs false
open Go.Proofs.Ytnahpejlhfeleaa.Sh
set_option maxRecDepth 20000
end Go.Proofs.Ytnahpejlhfeleaa
