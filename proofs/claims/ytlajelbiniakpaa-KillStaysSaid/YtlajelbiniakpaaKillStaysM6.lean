/- Contracts of functions, told of values, on the way to KillStays (part 6). -/
import Derived.Test.YtlajelbiniakpaaKillStaysM3
import Derived.Test.YtlajelbiniakpaaKillStaysM5
-- short names of the library's lemmas
open Nat renaming reduceEqDiff → zaa, reduceLeDiff → zaf, reduceAdd → zai, reduceSub → zaj, reduceMul → zak, reduceLT → zal, le_of_ble_eq_true → zaL, zero_le → zaX, lt_or_ge → zaZ
open List renaming reduceReplicate → zab, forall_mem_cons → zad, map_cons → zae, map_nil → zag, not_mem_nil → zah, append_nil → zap, length_cons → zat, length_nil → zau, take_succ_cons → zax, set_cons_zero → zay, set_cons_succ → zaA, flatten_cons → zaC, cons_append → zaD, nil_append → zaE, flatten_nil → zaF, take_zero → zaI, getD_cons_zero → zaJ, getD_cons_succ → zaK, take_nil → zaM, mem_cons_self → zaU, mem_cons_of_mem → zaV, take_of_length_le → zaW, length_map → zaY, length_take → zbb
open Int renaming cast_ofNat_Int → zac, reduceEq → zam, reduceLT → zan, reduceLE → zao, natCast_add → zaG
open Option renaming getD_some → zaN, getD_none → zaO
open Bool renaming and_eq_true → zaq, or_eq_false_iff → zar, and_eq_false_iff → zas, not_eq_false' → zav, not_eq_true' → zaz, or_eq_true → zaH
open And renaming intro → zaw
open Go.Proofs.Ytlajelbiniakpaa.Sh.Cell renaming ren → zaB, refs → zaQ
open Go.Proofs.Ytlajelbiniakpaa.Sh.SV renaming ren → zaR, renL → zaS
open Go.Proofs.Ytlajelbiniakpaa.Sh.Row renaming ren → zaP
open Go.Proofs.Ytlajelbiniakpaa.Sh.St renaming hpF → zaT, tmF → zba
-- NEWGO
-- PRUNE: cl_lendx cl_use
-- ISG: Cs_isG
-- FLAT: Cs_flat
namespace Go.Proofs.Ytlajelbiniakpaa
set_option linter.unusedVariables false
set_option linter.unusedSimpArgs false
open Go.Proofs.Ytlajelbiniakpaa.Sh
set_option maxRecDepth 20000
theorem vaF_all (l : List Nd) : ∀ (C : List Cd) (last : Int), vaF l C last = true → ∀ x ∈ C, cdk x = true ∧ bsF Nd.i l x.g = true ∧ last < x.p
  | [], _, _, x, hx => by cases hx
  | y :: r, last, h, x, hx => by
    rw [vaF, zaq, zaq, zaq, decide_eq_true_eq] at h
    rcases List.mem_cons.1 hx with rfl | hx
    · exact ⟨h.2.2.1, h.2.1, h.1⟩
    · obtain ⟨h1, h2, h3⟩ := vaF_all l r y.p h.2.2.2 x hx
      exact ⟨h1, h2, by omega⟩
theorem vaM_all {l : List Nd} {n : Int} {C : List Cd} (h : vaM l n C = true) : VT l n ∧ C.length ≤ 128 ∧ ∀ x ∈ C, cdk x = true ∧ bsF Nd.i l x.g = true ∧ 0 < x.p := by
  unfold vaM at h
  rw [zaq, zaq, decide_eq_true_eq] at h
  exact ⟨(chkT_iff l n).1 h.1, h.2.1, vaF_all l C 0 h.2.2⟩
def mxW (t : Int) (W : List Cd) : Cd := mxF t (gD W 0) (W.drop 1)
def viM (l : List Nd) (n : Int) (C : List Cd) (at' t : Int) : Cd × Int :=
  if vaM l n C = true then (if bsF Nd.i l at' = true then (if pgk t = true then (if (wiM l n C at').length = 0 then (zcd, 21) else (mxW t (wiM l n C at'), 0)) else (zcd, 3)) else (zcd, 4)) else (zcd, 1)
set_option maxHeartbeats 8000000 in
theorem victim1_spec (l : List Nd) (n : Int) (C : List Cd) (k : Option Nat) (at' t : Int) (hl : l.length ≤ 1000000) (hC : C.length ≤ 1000000) (hnm : NmR l) (hct : CtR l) : FnSpec Try.prog 36 [trV l none n, gr C k, i1 at', i1 t] [] (.tup [cdt (viM l n C at' t).1, i1 (viM l n C at' t).2]) [] := by
  have h1 := kvalid_spec l n C k hl (by omega) hnm hct
  unfold viM
  cases hv : vaM l n C with
  | false =>
    rw [hv] at h1
    rw [if_neg (by decide)]
    refine fnspec_of mixed TT_ok TT_cl ⟨fun _ => false, fun _ => [], 0, fun _ => false, fun _ => false⟩ Try.func36 rfl (by kernel_rfl) rfl 38 rfl [.cell 8 35, .tmp 9] rfl ?_
    simp only [go_sem, zaa, zai, zaj, zak, zal, zaf, ↓reduceIte, reduceCtorEq, zab, zac, zam, zan, zao]
    repeat' (first
 | with_reducible refine zaw ?_ ?_
 | (apply cl_plain
    case hs => rfl
    case ha => (simp only [zae, zag, prepV, prepC, idx, hpL', lookR, zaa, if_true, if_false]; rfl)
    case h => (first | exact h1 ..))
 | ((first | refine s1_id ?_ | refine swp_id ?_ | refine sops_id ?_ | refine s2_id ?_); simp only [zaC, zaF, zap, zaD, zaE, zay, zaA, zax, zaI, zaM, zat, zau, go_sem, zaa, zai, zaj, zak, zal, zaf, ↓reduceIte, reduceCtorEq, zab, zac, zam, zan, zao, zaR, zaS, zaB, zaP, renO, bk, back, outUpsFrom, Ints_ren])
 | (intros; omega)
 | (apply fs_nil <;> (try simp only [go_sem, resV, resS, zaR, zaS, zaB, zba, zaT, idx, renO, zaP, evS, slot, lookR, zaa, ↓reduceIte, reduceCtorEq, if_true, if_false, zaN, zaO, zae, zag, sLoad, readAt, readNeed, Ints_ren, Ints_length, Ints_getD, and_true, true_and, zaJ, zaK]) <;> (try rfl))
 | fail)
  | true =>
  rw [hv] at h1
  rw [if_pos rfl]
  have h2 := known_spec l n at' hl
  cases hb : bsF Nd.i l at' with
  | false =>
    rw [hb] at h2
    rw [if_neg (by decide)]
    refine fnspec_of mixed TT_ok TT_cl ⟨fun _ => false, fun _ => [], 0, fun _ => false, fun _ => false⟩ Try.func36 rfl (by kernel_rfl) rfl 38 rfl [.cell 8 35, .tmp 9] rfl ?_
    simp only [go_sem, zaa, zai, zaj, zak, zal, zaf, ↓reduceIte, reduceCtorEq, zab, zac, zam, zan, zao]
    repeat' (first
 | with_reducible refine zaw ?_ ?_
 | (apply cl_plain
    case hs => rfl
    case ha => (simp only [zae, zag, prepV, prepC, idx, hpL', lookR, zaa, if_true, if_false]; rfl)
    case h => (first | exact h1 .. | exact h2 ..))
 | ((first | refine s1_id ?_ | refine swp_id ?_ | refine sops_id ?_ | refine s2_id ?_); simp only [zaC, zaF, zap, zaD, zaE, zay, zaA, zax, zaI, zaM, zat, zau, go_sem, zaa, zai, zaj, zak, zal, zaf, ↓reduceIte, reduceCtorEq, zab, zac, zam, zan, zao, zaR, zaS, zaB, zaP, renO, bk, back, outUpsFrom, Ints_ren])
 | (intros; omega)
 | (apply fs_nil <;> (try simp only [go_sem, resV, resS, zaR, zaS, zaB, zba, zaT, idx, renO, zaP, evS, slot, lookR, zaa, ↓reduceIte, reduceCtorEq, if_true, if_false, zaN, zaO, zae, zag, sLoad, readAt, readNeed, Ints_ren, Ints_length, Ints_getD, and_true, true_and, zaJ, zaK]) <;> (try rfl))
 | fail)
  | true =>
  rw [hb] at h2
  rw [if_pos rfl]
  have h3 := pages_spec t
  cases hp : pgk t with
  | false =>
    rw [hp] at h3
    rw [if_neg (by decide)]
    refine fnspec_of mixed TT_ok TT_cl ⟨fun _ => false, fun _ => [], 0, fun _ => false, fun _ => false⟩ Try.func36 rfl (by kernel_rfl) rfl 38 rfl [.cell 8 35, .tmp 9] rfl ?_
    simp only [go_sem, zaa, zai, zaj, zak, zal, zaf, ↓reduceIte, reduceCtorEq, zab, zac, zam, zan, zao]
    repeat' (first
 | with_reducible refine zaw ?_ ?_
 | (apply cl_plain
    case hs => rfl
    case ha => (simp only [zae, zag, prepV, prepC, idx, hpL', lookR, zaa, if_true, if_false]; rfl)
    case h => (first | exact h1 .. | exact h2 .. | exact h3 ..))
 | ((first | refine s1_id ?_ | refine swp_id ?_ | refine sops_id ?_ | refine s2_id ?_); simp only [zaC, zaF, zap, zaD, zaE, zay, zaA, zax, zaI, zaM, zat, zau, go_sem, zaa, zai, zaj, zak, zal, zaf, ↓reduceIte, reduceCtorEq, zab, zac, zam, zan, zao, zaR, zaS, zaB, zaP, renO, bk, back, outUpsFrom, Ints_ren])
 | (intros; omega)
 | (apply fs_nil <;> (try simp only [go_sem, resV, resS, zaR, zaS, zaB, zba, zaT, idx, renO, zaP, evS, slot, lookR, zaa, ↓reduceIte, reduceCtorEq, if_true, if_false, zaN, zaO, zae, zag, sLoad, readAt, readNeed, Ints_ren, Ints_length, Ints_getD, and_true, true_and, zaJ, zaK]) <;> (try rfl))
 | fail)
  | true =>
  rw [hp] at h3
  rw [if_pos rfl]
  have h4 := within_spec l n C k at' hl hC hnm hct
  obtain ⟨_, _, hall⟩ := vaM_all hv
  have hWk : ∀ x ∈ wiM l n C at', cdk x = true := fun x hx => (hall x (List.mem_filter.1 hx).1).1
  have hWl : (wiM l n C at').length ≤ C.length := List.length_filter_le _ _
  generalize wiM l n C at' = W at *
  by_cases h0 : W.length = 0
  · have h0' : (W.length : Int) = 0 := by omega
    rw [if_pos h0]
    refine fnspec_of mixed TT_ok TT_cl ⟨fun _ => false, fun _ => [], 0, fun _ => false, fun _ => false⟩ Try.func36 rfl (by kernel_rfl) rfl 38 rfl [.cell 8 35, .tmp 9] rfl ?_
    simp only [go_sem, zaa, zai, zaj, zak, zal, zaf, ↓reduceIte, reduceCtorEq, zab, zac, zam, zan, zao, decide_eq_true h0']
    repeat' (first
 | with_reducible refine zaw ?_ ?_
 | (apply cl_plain
    case hs => rfl
    case ha => (simp only [zae, zag, prepV, prepC, idx, hpL', lookR, zaa, if_true, if_false]; rfl)
    case h => (first | exact h1 .. | exact h2 .. | exact h3 .. | exact h4 ..))
 | ((first | refine s1_id ?_ | refine swp_id ?_ | refine sops_id ?_ | refine s2_id ?_); simp only [decide_eq_true h0', zaC, zaF, zap, zaD, zaE, zay, zaA, zax, zaI, zaM, zat, zau, go_sem, zaa, zai, zaj, zak, zal, zaf, ↓reduceIte, reduceCtorEq, zab, zac, zam, zan, zao, zaR, zaS, zaB, zaP, renO, bk, back, outUpsFrom, Ints_ren])
 | (intros; omega)
 | (apply fs_nil <;> (try simp only [go_sem, resV, resS, zaR, zaS, zaB, zba, zaT, idx, renO, zaP, evS, slot, lookR, zaa, ↓reduceIte, reduceCtorEq, if_true, if_false, zaN, zaO, zae, zag, sLoad, readAt, readNeed, Ints_ren, Ints_length, Ints_getD, and_true, true_and, zaJ, zaK]) <;> (try rfl))
 | fail)
  have h0' : ¬ (W.length : Int) = 0 := by omega
  rw [if_neg h0]
  have h5 := maxf_spec W none t hp hWk (by omega) (by omega)
  unfold mxW
  generalize mxF t (gD W 0) (W.drop 1) = M at *
  obtain ⟨mp, mg, mn, ma⟩ := M
  simp only [cdc] at h5 ⊢
  refine fnspec_of mixed TT_ok TT_cl ⟨fun _ => false, fun _ => [], 0 , fun _ => false, fun i => if i = 10 then true else false⟩ Try.func36 rfl (by kernel_rfl) rfl 38 rfl [.cell 8 35, .tmp 9] rfl ?_
  simp only [go_sem, zaa, zai, zaj, zak, zal, zaf, ↓reduceIte, reduceCtorEq, zab, zac, zam, zan, zao, decide_eq_false h0']
  repeat' (first
 | (apply cl_plain
    case hs => rfl
    case ha => (simp only [zae, zag, prepV, prepC, idx, hpL', lookR, zaa, if_true, if_false]; rfl)
    case h => (first | exact h1 .. | exact h2 .. | exact h3 .. | exact h4 ..))
 | ((first | refine s1_id ?_ | refine swp_id ?_ | refine sops_id ?_ | refine s2_id ?_); simp only [decide_eq_false h0', zaC, zaF, zap, zaD, zaE, zay, zaA, zax, zaI, zaM, zat, zau, go_sem, zaa, zai, zaj, zak, zal, zaf, ↓reduceIte, reduceCtorEq, zab, zac, zam, zan, zao, zaR, zaS, zaB, zaP, renO, bk, back, outUpsFrom, Ints_ren])
 | (intros; (try simp only [zaq, zaH, zaz, zav, zas, zar, decide_eq_true_eq, decide_eq_false_iff_not] at *); omega))
  (refine rgf_t _ (imp_frz _ _ 1 ⟨[int t], 1⟩ (by simp only [zaT, lookR, zaa, if_true, if_false, ↓reduceIte]) (by first | exact Ints_isG _ | exact Bools_isG _ | exact Cs_isG _ | (simp [Cell.isG]; done))) ?_; simp only [frzTm, SV.frz, SV.frzL, Cell.frz, frzHp, frzO, Ints_frz, Bools_frz, zae, zag, zaa, if_true, if_false, ↓reduceIte])
  simp only [go_sem, zaa, zai, zaj, zak, zal, zaf, ↓reduceIte, reduceCtorEq, zab, zac, zam, zan, zao]
  repeat' (first
 | with_reducible refine zaw ?_ ?_
 | (apply cl_plain
    case hs => rfl
    case ha => (simp only [zae, zag, prepV, prepC, idx, hpL', lookR, zaa, if_true, if_false]; rfl)
    case h => (first | exact h5 ..))
 | ((first | refine s1_id ?_ | refine swp_id ?_ | refine sops_id ?_ | refine s2_id ?_); simp only [zaC, zaF, zap, zaD, zaE, zay, zaA, zax, zaI, zaM, zat, zau, go_sem, zaa, zai, zaj, zak, zal, zaf, ↓reduceIte, reduceCtorEq, zab, zac, zam, zan, zao, zaR, zaS, zaB, zaP, renO, bk, back, outUpsFrom, Ints_ren])
 | (intros; omega)
 | (apply fs_nil <;> (try simp only [go_sem, resV, resS, zaR, zaS, zaB, zba, zaT, idx, renO, zaP, evS, slot, lookR, zaa, ↓reduceIte, reduceCtorEq, if_true, if_false, zaN, zaO, zae, zag, sLoad, readAt, readNeed, Ints_ren, Ints_length, Ints_getD, and_true, true_and, zaJ, zaK]) <;> (try rfl))
 | fail)
theorem victim_spec (l : List Nd) (n : Int) (C : List Cd) (k : Option Nat) (at' t : Int) (hl : l.length ≤ 1000000) (hC : C.length ≤ 1000000) (hnm : NmR l) (hct : CtR l) : FnSpec Try.prog 18 [trV l none n, gr C k, i1 at', i1 t] [] (.tup [i1 (viM l n C at' t).1.p, i1 (viM l n C at' t).2]) [] := by
  have h1 := victim1_spec l n C k at' t hl hC hnm hct
  generalize viM l n C at' t = q at *
  obtain ⟨⟨p, g, m, a⟩, e⟩ := q
  simp only [cdc] at h1 ⊢
  refine fnspec_of mixed TT_ok TT_cl ⟨fun _ => false, fun _ => [], 0, fun _ => false, fun _ => false⟩ Try.func18 rfl (by kernel_rfl) rfl 23 rfl [.tmp 8, .tmp 9] rfl ?_
  simp only [go_sem, zaa, zai, zaj, zak, zal, zaf, ↓reduceIte, reduceCtorEq, zab, zac, zam, zan, zao]
  repeat' (first
 | (apply cl_plain
    case hs => rfl
    case ha => (simp only [zae, zag, prepV, prepC, idx, hpL', lookR, zaa, if_true, if_false]; rfl)
    case h => (first | exact h1 ..))
 | ((first | refine s1_id ?_ | refine swp_id ?_ | refine sops_id ?_ | refine s2_id ?_); simp only [zaC, zaF, zap, zaD, zaE, zay, zaA, zax, zaI, zaM, zat, zau, go_sem, zaa, zai, zaj, zak, zal, zaf, ↓reduceIte, reduceCtorEq, zab, zac, zam, zan, zao, zaR, zaS, zaB, zaP, renO, bk, back, outUpsFrom, Ints_ren])
 | exact fs_nil trivial rfl
 | fail)
def frM (P : List Int) (C : List Cd) : Int := C.foldl (fun s x => if x.p ∈ P then s + x.n else s) 0
set_option maxHeartbeats 4000000 in
theorem freed_spec (P : List Int) (kp : Option Nat) (C : List Cd) (k : Option Nat) (hP : P.length ≤ 9223372036854775807) (hC : C.length ≤ 1000000) (hn : ∀ x ∈ C, 0 ≤ x.n ∧ x.n ≤ 16777216) : FnSpec Try.prog 17 [gr C k, gi P kp] [] (i1 (frM P C)) [] := by
  have hcl := cd_len C
  refine fnspec_of mixed TT_ok TT_cl ⟨fun _ => false, fun _ => [], 0, fun _ => false, fun _ => false⟩ Try.func17 rfl (by kernel_rfl) rfl 24 rfl [.tmp 4] rfl ?_
  simp only [go_sem, zaa, zai, zaj, zak, zal, zaf, ↓reduceIte, reduceCtorEq, zab, zac, zam, zan, zao]
  repeat' (first
 | (intros; (try simp only [zaq, zaH, zaz, zav, zas, zar, decide_eq_true_eq, decide_eq_false_iff_not] at *); omega))
  refine w_loop (ι := Nat) (fun m => ⟨[(1, gi P kp), (5, i1 (frM P (C.take m))), (8, gr C k), (9, i1 C.length), (10, i1 m)], [], 0⟩) (fun m => m ≤ C.length ∧ 0 ≤ frM P (C.take m) ∧ frM P (C.take m) ≤ m * 16777216) (fun m => C.length - m) 0 ?_ ⟨zaX _, Int.le_refl 0, by show (0 : Int) ≤ ((0 : Nat) : Int) * 16777216; omega⟩ ?_
  · (refine imp_sub _ _ _ [] (by simp) (by simp) (by simp) (zaX _) ?_ rfl (by simp); simp only [zad, zah, false_implies, implies_true, and_true, lk, slot, zaR, zaB, zaa, if_true, if_false, ↓reduceIte, reduceCtorEq])
    all_goals ((repeat' apply zaw) <;> (first | rfl | trivial))
  rintro m ⟨hm, hs1, hs2⟩
  simp only at hm hs1 hs2 ⊢
  rcases zaZ m C.length with hlt | hge
  case inr =>
    have c : ¬ (m : Int) < (C.length : Int) := by omega
    rw [zaW hge]
    simp only [go_sem, zaa, zai, zaj, zak, zal, zaf, ↓reduceIte, reduceCtorEq, zab, zac, zam, zan, zao, decide_eq_false c]
    repeat' (first
 | exact fs_nil trivial rfl
 | fail)
  have c : (m : Int) < (C.length : Int) := by omega
  have hat := cd_td C m hlt
  have hst : frM P (C.take (m + 1)) = if (gD C m).p ∈ P then frM P (C.take m) + (gD C m).n else frM P (C.take m) := by
    unfold frM; rw [take_getD C m zcd hlt, List.foldl_append]; rfl
  have hxn : 0 ≤ (gD C m).n ∧ (gD C m).n ≤ 16777216 := hn _ (getD_mem C m zcd hlt)
  have k1 := kccon_spec P kp (gD C m).p hP
  generalize frM P (C.take m) = s at *
  generalize gD C m = x at *
  obtain ⟨p, g, n', a⟩ := x
  simp only [cdc] at hat k1 hst hxn
  by_cases hp : p ∈ P
  · rw [if_pos hp] at hst
    rw [decide_eq_true hp] at k1
    simp only [go_sem, zaa, zai, zaj, zak, zal, zaf, ↓reduceIte, reduceCtorEq, zab, zac, zam, zan, zao, decide_eq_true c, hat]
    repeat' (first
 | with_reducible refine zaw ?_ ?_
 | (apply cl_plain
    case hs => rfl
    case ha => (simp only [zae, zag, prepV, prepC, idx, hpL', lookR, zaa, if_true, if_false]; rfl)
    case h => (first | exact k1 ..))
 | ((first | refine s1_id ?_ | refine swp_id ?_ | refine sops_id ?_ | refine s2_id ?_); simp only [decide_eq_true c, hat, zaC, zaF, zap, zaD, zaE, zay, zaA, zax, zaI, zaM, zat, zau, go_sem, zaa, zai, zaj, zak, zal, zaf, ↓reduceIte, reduceCtorEq, zab, zac, zam, zan, zao, zaR, zaS, zaB, zaP, renO, bk, back, outUpsFrom, Ints_ren])
 | (intros; omega)
 | (intros; (try simp only [zaq, zaH, zaz, zav, zas, zar, decide_eq_true_eq, decide_eq_false_iff_not] at *); omega))
    refine le_mk (m + 1) ?_ ⟨hlt, by rw [hst]; omega, by rw [hst]; omega⟩ (by omega)
    simp only [hst]
    (refine imp_sub _ _ _ [] (by simp) (by simp) (by simp) (zaX _) ?_ rfl (by simp); simp only [zad, zah, false_implies, implies_true, and_true, lk, slot, zaR, zaB, zaa, if_true, if_false, ↓reduceIte, reduceCtorEq])
    all_goals ((repeat' apply zaw) <;> (first | rfl | trivial | (simp only [zaG]; done) | (simp only [zaG]; rfl) | (simp only [zaG]; trivial)))
  · rw [if_neg hp] at hst
    rw [decide_eq_false hp] at k1
    simp only [go_sem, zaa, zai, zaj, zak, zal, zaf, ↓reduceIte, reduceCtorEq, zab, zac, zam, zan, zao, decide_eq_true c, hat]
    repeat' (first
 | with_reducible refine zaw ?_ ?_
 | (apply cl_plain
    case hs => rfl
    case ha => (simp only [zae, zag, prepV, prepC, idx, hpL', lookR, zaa, if_true, if_false]; rfl)
    case h => (first | exact k1 ..))
 | ((first | refine s1_id ?_ | refine swp_id ?_ | refine sops_id ?_ | refine s2_id ?_); simp only [decide_eq_true c, hat, zaC, zaF, zap, zaD, zaE, zay, zaA, zax, zaI, zaM, zat, zau, go_sem, zaa, zai, zaj, zak, zal, zaf, ↓reduceIte, reduceCtorEq, zab, zac, zam, zan, zao, zaR, zaS, zaB, zaP, renO, bk, back, outUpsFrom, Ints_ren])
 | (intros; omega)
 | (intros; (try simp only [zaq, zaH, zaz, zav, zas, zar, decide_eq_true_eq, decide_eq_false_iff_not] at *); omega))
    refine le_mk (m + 1) ?_ ⟨hlt, by rw [hst]; omega, by rw [hst]; omega⟩ (by omega)
    simp only [hst]
    (refine imp_sub _ _ _ [] (by simp) (by simp) (by simp) (zaX _) ?_ rfl (by simp); simp only [zad, zah, false_implies, implies_true, and_true, lk, slot, zaR, zaB, zaa, if_true, if_false, ↓reduceIte, reduceCtorEq])
    all_goals ((repeat' apply zaw) <;> (first | rfl | trivial | (simp only [zaG]; done) | (simp only [zaG]; rfl) | (simp only [zaG]; trivial)))
end Go.Proofs.Ytlajelbiniakpaa
-- NEWGO
-- PRUNE: cl_lendx
-- ISG: Cs_isG
-- FLAT: Cs_flat
namespace Go.Proofs.Ytlajelbiniakpaa
set_option linter.unusedVariables false
set_option linter.unusedSimpArgs false
open Go.Proofs.Ytlajelbiniakpaa.Sh
set_option maxRecDepth 20000
def pkV (l : List Int) (i : Nat) (xs : List Int) : Int := xs.getD (nxV l i xs.length).toNat 0
theorem kpick_spec (l : List Int) (i : Nat) (xs : List Int) (c : Option Nat) (h0 : 0 < xs.length) (h1 : xs.length ≤ 600) (hl : l.length ≤ 600) (hr : ∀ x ∈ l, -9223372036854775808 ≤ x ∧ x ≤ 9223372036854775807) : FnSpec Try.prog 13 [dp, gi xs c] [dice l i] (i1 (pkV l i xs)) [some (dice l (nxA l i xs.length))] := by
  have h2 := nx_rng l i xs.length (by omega)
  refine fnspec_of mixed TT_ok TT_cl ⟨fun _ => false, fun f => if f = 12 then [0] else [], 1, fun _ => false, fun _ => false⟩ Try.func13 rfl (by kernel_rfl) rfl 12 rfl [.tmp 4] rfl ?_
  simp only [go_sem, zaa, zai, zaj, zak, zal, zaf, ↓reduceIte, reduceCtorEq, zab, zac, zam, zan, zao]
  repeat' (first
 | with_reducible refine zaw ?_ ?_
 | (apply cl_lend
    case hr => (simp only [zae, zag, hpL', lookR, zaa, if_true, if_false]; first | exact map1 _ | exact map2 _ _ | exact map3 _ _ _)
    case ha => (simp only [zae, zag, prepV, prepC, idx, hpL', lookR, zaa, if_true, if_false]; rfl)
    case hs => rfl
    case hn => decide
    case h => (first | exact next_spec _ _ _ hl hr (by omega))
    case hf => (simp only [zad, zah, false_implies, implies_true, and_true, true_and, flat_cons, flat_nil, flat_ints, flat_bools, flat_app, Cs_flat, zaQ, and_self, eq_self_iff_true, zap])
    case hl => (simp only [zat, zau]; decide))
 | ((first | refine s1_id ?_ | refine swp_id ?_ | refine sops_id ?_ | refine s2_id ?_); simp only [go_sem, zaa, zai, zaj, zak, zal, zaf, ↓reduceIte, reduceCtorEq, zab, zac, zam, zan, zao, zaR, zaS, zaB, zaP, renO, bk, back, outUpsFrom, Ints_ren])
 | (intros; omega)
 | fail)
  (refine fs_flat [(0, dice l (nxA l i xs.length))] (by simp) (by simp only [zae, zag]; decide) (by simp only [go_sem, resV, resS, zaR, zaS, zaB, zba, zaT, idx, renO, zaP, evS, slot, lookR, zaa, ↓reduceIte, reduceCtorEq, if_true, if_false, zaN, zaO, zae, zag, sLoad, readAt, readNeed, Ints_ren, Ints_length, Ints_getD, and_true, true_and, zaJ, zaK]; try decide) ?_ (by simp only [zad, zah, false_implies, implies_true, and_true, zaT, lookR, zaa, if_true, if_false, ↓reduceIte] <;> (repeat' apply zaw) <;> (first | rfl | trivial)) (by simp only [zad, zah, false_implies, implies_true, and_true, true_and, flat_cons, flat_nil, flat_ints, flat_bools, flat_app, zaQ, and_self, eq_self_iff_true, zap]) ?_ <;> (try simp only [go_sem, resV, resS, zaR, zaS, zaB, zba, zaT, idx, renO, zaP, evS, slot, lookR, zaa, ↓reduceIte, reduceCtorEq, if_true, if_false, zaN, zaO, zae, zag, sLoad, readAt, readNeed, Ints_ren, Ints_length, Ints_getD, and_true, true_and, zaJ, zaK]) <;> (try rfl))
theorem pkV_rng (l : List Int) (i : Nat) (xs : List Int) {a b : Int} (h0 : 0 < xs.length) (h : ∀ x ∈ xs, a ≤ x ∧ x ≤ b) : a ≤ pkV l i xs ∧ pkV l i xs ≤ b := by
  have h2 := nx_rng l i xs.length (by omega)
  have h3 : (nxV l i xs.length).toNat < xs.length := by omega
  unfold pkV
  rw [List.getD_eq_getElem?_getD, List.getElem?_eq_getElem h3]
  exact h _ (List.getElem_mem _)
abbrev pgL : List Int := [0, 10, 10, 100, 700]
abbrev adL : List Int := [0, 0, 100, -50, -1000, 1000, -999]
def cn1 (D : List Int) (l : List Nd) (j : Nat) (id' : Int) : Cd × Nat :=
  (⟨id' + (1 + nxV D j 3), (gN l (nxV D (nxA D j 3) l.length).toNat).i, pkV D (nxA D (nxA D j 3) l.length) pgL, pkV D (nxA D (nxA D (nxA D j 3) l.length) 5) adL⟩, nxA D (nxA D (nxA D (nxA D j 3) l.length) 5) 7)
def cnS (D : List Int) (l : List Nd) : Nat → Nat → Int → List Cd → List Cd × Nat
  | 0, j, _, acc => (acc, j)
  | m + 1, j, id', acc => cnS D l m (cn1 D l j id').2 (cn1 D l j id').1.p (acc ++ [(cn1 D l j id').1])
def mkCd (D : List Int) (l : List Nd) (j : Nat) : List Cd × Nat := cnS D l (nxV D j 9).toNat (nxA D j 9) 0 []
theorem cn1_ok (D : List Int) {l : List Nd} {n : Int} (hV : VT l n) (j : Nat) (id' : Int) : id' < (cn1 D l j id').1.p ∧ (cn1 D l j id').1.p ≤ id' + 3 ∧ bsF Nd.i l (cn1 D l j id').1.g = true ∧ cdk (cn1 D l j id').1 = true := by
  have r1 := nx_rng D j 3 (by decide)
  have r2 := nx_rng D (nxA D j 3) l.length (by have := hV.ne; omega)
  have r3 := pkV_rng D (nxA D (nxA D j 3) l.length) pgL (a := 0) (b := 700) (by decide) (by decide)
  have r4 := pkV_rng D (nxA D (nxA D (nxA D j 3) l.length) 5) adL (a := -1000) (b := 1000) (by decide) (by decide)
  refine ⟨?_, ?_, ?_, ?_⟩
  · show id' < id' + (1 + nxV D j 3); omega
  · show id' + (1 + nxV D j 3) ≤ id' + 3; omega
  · exact (bs_found Nd.i l (fun i j hij hj => hV.asc i j hij hj) (nxV D (nxA D j 3) l.length).toNat (by omega)).2
  · exact cdk_iff.2 ⟨⟨r3.1, Int.le_trans r3.2 (by decide)⟩, r4⟩
theorem cnS_ok (D : List Int) {l : List Nd} {n : Int} (hV : VT l n) : ∀ (m j : Nat) (id' : Int) (acc : List Cd), ∃ X, (cnS D l m j id' acc).1 = acc ++ X ∧ X.length = m ∧ vaF l X id' = true ∧ ∀ x ∈ X, x.n ≤ 700 ∧ x.p ≤ id' + 3 * m
  | 0, j, id', acc => ⟨[], by rw [zap]; rfl, rfl, rfl, fun x hx => by cases hx⟩
  | m + 1, j, id', acc => by
    obtain ⟨h1, h2, h3, h4⟩ := cn1_ok D hV j id'
    obtain ⟨X, e, hl, hv, hn⟩ := cnS_ok D hV m (cn1 D l j id').2 (cn1 D l j id').1.p (acc ++ [(cn1 D l j id').1])
    refine ⟨(cn1 D l j id').1 :: X, ?_, by rw [zat, hl], ?_, fun x hx => ?_⟩
    · rw [cnS, e, List.append_assoc]; rfl
    · rw [vaF, decide_eq_true h1, h3, h4, hv]; rfl
    · rcases List.mem_cons.1 hx with rfl | hx
      · exact ⟨(pkV_rng D _ pgL (a := 0) (b := 700) (by decide) (by decide)).2, by omega⟩
      · have := hn x hx
        exact ⟨this.1, by omega⟩
theorem mkCd_ok (D : List Int) {l : List Nd} {n : Int} (hV : VT l n) (j : Nat) : vaM l n (mkCd D l j).1 = true ∧ (mkCd D l j).1.length ≤ 8 ∧ ∀ x ∈ (mkCd D l j).1, x.n ≤ 700 ∧ x.p ≤ 24 := by
  have r := nx_rng D j 9 (by decide)
  obtain ⟨X, e, hl, hv, hn⟩ := cnS_ok D hV (nxV D j 9).toNat (nxA D j 9) 0 []
  unfold mkCd
  rw [e, zaE]
  refine ⟨?_, by omega, fun x hx => ?_⟩
  · unfold vaM
    rw [(chkT_iff l n).2 hV, hv, decide_eq_true (by omega)]; rfl
  · have := hn x hx
    exact ⟨this.1, by omega⟩
def lendK : FuncId → List Nat := fun f => if f = 12 then [0] else if f = 13 then [0] else []
set_option maxHeartbeats 16000000 in
theorem cands_spec (D : List Int) (hl : D.length ≤ 600) (hr : ∀ x ∈ D, -9223372036854775808 ≤ x ∧ x ≤ 9223372036854775807) (l : List Nd) (n : Int) (hV : VT l n) (j : Nat) : FnSpec Try.prog 11 [dp, trV l none n] [dice D j] (gr (mkCd D l j).1 none) [some (dice D (mkCd D l j).2)] := by
  have hnl := nd_len l
  have hle := hV.le
  have hne := hV.ne
  have n0 := next_spec D j 9 hl hr (by decide)
  have r0 := nx_rng D j 9 (by decide)
  obtain ⟨T, hT⟩ : ∃ T, mkCd D l j = T := ⟨_, rfl⟩
  rw [hT]
  obtain ⟨R, J⟩ := T
  unfold mkCd at hT
  simp only
  generalize nxA D j 9 = j0 at *
  obtain ⟨u, hu⟩ : ∃ u : Nat, nxV D j 9 = u := ⟨(nxV D j 9).toNat, by omega⟩
  rw [hu] at n0 r0 hT
  rw [Int.toNat_natCast] at hT
  refine fnspec_of mixed TT_ok TT_cl ⟨fun _ => false, lendK, 1, fun _ => false, fun _ => false⟩ Try.func11 rfl (by kernel_rfl) rfl 41 rfl [.tmp 4] rfl ?_
  simp only [go_sem, zaa, zai, zaj, zak, zal, zaf, ↓reduceIte, reduceCtorEq, zab, zac, zam, zan, zao, lendK]
  repeat' (first
 | (apply cl_lend
    case hr => (simp only [zae, zag, hpL', lookR, zaa, if_true, if_false]; first | exact map1 _ | exact map2 _ _ | exact map3 _ _ _)
    case ha => (simp only [zae, zag, prepV, prepC, idx, hpL', lookR, zaa, if_true, if_false]; rfl)
    case hs => rfl
    case hn => decide
    case h => (first | exact n0 ..)
    case hf => (simp only [zad, zah, false_implies, implies_true, and_true, true_and, flat_cons, flat_nil, flat_ints, flat_bools, flat_app, Cs_flat, zaQ, and_self, eq_self_iff_true, zap])
    case hl => (simp only [zat, zau]; decide))
 | ((first | refine s1_id ?_ | refine swp_id ?_ | refine sops_id ?_ | refine s2_id ?_); simp only [lendK, dice, go_sem, zaa, zai, zaj, zak, zal, zaf, ↓reduceIte, reduceCtorEq, zab, zac, zam, zan, zao, zaR, zaS, zaB, zaP, renO, bk, back, outUpsFrom, Ints_ren])
 | (intros; (try simp only [zaq, zaH, zaz, zav, zas, zar, decide_eq_true_eq, decide_eq_false_iff_not] at *); omega))
  refine w_loop (ι := Nat × Nat × Int × List Cd) (fun s => ⟨[(0, dp), (3, .one (.optr 1 0)), (5, .one (.osl 2 0 s.2.2.2.length none)), (6, i1 s.2.2.1), (7, i1 s.1)], [(0, some (dice D s.2.1)), (1, some ⟨[.gsl (Cs l) 0 l.length none, int n], 2⟩), (2, some ⟨Cs s.2.2.2, 4⟩)], 3⟩) (fun s => s.1 ≤ 8 ∧ s.2.2.2.length ≤ 8 - s.1 ∧ 0 ≤ s.2.2.1 ∧ s.2.2.1 ≤ 3 * (8 - s.1) ∧ cnS D l s.1 s.2.1 s.2.2.1 s.2.2.2 = (R, J)) (fun s => s.1) (u, j0, 0, []) ?_ ⟨by show u ≤ 8; omega, zaX _, Int.le_refl 0, by show (0 : Int) ≤ 3 * (8 - (u : Int)); omega, hT⟩ ?_
  · (refine Imp.trans (imp_nilA _ _ 5 4 99 (by simp only []; omega) rfl) ?_)
    (refine imp_ren _ _ _ [(0, 0, dice D j0), (1, 1, ⟨[.gsl (Cs l) 0 l.length none, int n], 2⟩), (2, 99, ⟨[], 4⟩)] (by simp) (by simp) (by simp) (zaL rfl) ?_ rfl (by simp only [zad, zah, false_implies, implies_true, and_true, zaT, lookR, zaa, if_true, if_false, ↓reduceIte, dice] <;> (repeat' apply zaw) <;> (first | rfl | trivial)) (by simp only [zad, zah, false_implies, implies_true, and_true, true_and, flat_cons, flat_nil, flat_ints, flat_bools, flat_app, zaQ, and_self, eq_self_iff_true, zap, dice]); simp only [zae, zag, zad, zah, false_implies, implies_true, and_true, lk, slot, zaR, zaB, toN, zaa, if_true, if_false, ↓reduceIte, reduceCtorEq])
    all_goals ((repeat' apply zaw) <;> (first | rfl | trivial))
  clear hT
  rintro ⟨m, j1, id', acc⟩ ⟨hm, ha, hi0, hi1, hI⟩
  simp only at hm ha hi0 hi1 hI ⊢
  rcases Nat.eq_zero_or_pos m with h0 | hpos
  · subst h0
    rw [cnS] at hI
    obtain ⟨rfl, rfl⟩ := Prod.mk.inj hI
    have c : ¬ (0 : Int) < ((0 : Nat) : Int) := by omega
    simp only [go_sem, zaa, zai, zaj, zak, zal, zaf, ↓reduceIte, reduceCtorEq, zab, zac, zam, zan, zao, decide_eq_false c, lendK]
    repeat' (first
 | (intros; (try simp only [zaq, zaH, zaz, zav, zas, zar, decide_eq_true_eq, decide_eq_false_iff_not] at *); omega))
    (refine fs_frz 2 ⟨Cs acc, 4⟩ (by simp only [zaT, lookR, zaa, if_true, if_false, ↓reduceIte]) (by first | exact Ints_isG _ | exact Bools_isG _ | exact Cs_isG _ | (simp [Cell.isG]; done)) ?_; simp only [frzTm, SV.frz, SV.frzL, Cell.frz, frzHp, frzO, Ints_frz, Bools_frz, zae, zag, zaa, if_true, if_false, ↓reduceIte])
    (refine fs_flat [(0, dice D j1)] (by simp) (by simp only [zae, zag]; decide) (by simp only [go_sem, resV, resS, zaR, zaS, zaB, zba, zaT, idx, renO, zaP, evS, slot, lookR, zaa, ↓reduceIte, reduceCtorEq, if_true, if_false, zaN, zaO, zae, zag, sLoad, readAt, readNeed, Ints_ren, Ints_length, Ints_getD, and_true, true_and, zaJ, zaK]; try decide) ?_ (by simp only [zad, zah, false_implies, implies_true, and_true, zaT, lookR, zaa, if_true, if_false, ↓reduceIte, dice] <;> (repeat' apply zaw) <;> (first | rfl | trivial)) (by simp only [zad, zah, false_implies, implies_true, and_true, true_and, flat_cons, flat_nil, flat_ints, flat_bools, flat_app, zaQ, and_self, eq_self_iff_true, zap, dice]) ?_ <;> (try simp only [go_sem, resV, resS, zaR, zaS, zaB, zba, zaT, idx, renO, zaP, evS, slot, lookR, zaa, ↓reduceIte, reduceCtorEq, if_true, if_false, zaN, zaO, zae, zag, sLoad, readAt, readNeed, Ints_ren, Ints_length, Ints_getD, and_true, true_and, zaJ, zaK]) <;> (try rfl))
  obtain ⟨m, rfl⟩ : ∃ m', m = m' + 1 := ⟨m - 1, by omega⟩
  have c : (0 : Int) < ((m + 1 : Nat) : Int) := by omega
  rw [cnS] at hI
  unfold cn1 at hI
  simp only at hI
  have n1 := next_spec D j1 3 hl hr (by decide)
  have r1 := nx_rng D j1 3 (by decide)
  generalize nxV D j1 3 = v1 at *
  generalize nxA D j1 3 = j2 at *
  have n2 := next_spec D j2 l.length hl hr (by omega)
  have r2 := nx_rng D j2 l.length (by omega)
  obtain ⟨t, ht⟩ : ∃ t : Nat, nxV D j2 l.length = t := ⟨(nxV D j2 l.length).toNat, by omega⟩
  rw [ht] at n2 r2 hI
  rw [Int.toNat_natCast] at hI
  generalize nxA D j2 l.length = j3 at *
  obtain ⟨q1, _⟩ := nd_f l t (by omega) (.sc (.int .i64 0))
  generalize (gN l t).i = g at *
  have n3 : ∀ c, FnSpec Try.prog 13 [dp, gi pgL c] [dice D j3] (i1 (pkV D j3 pgL)) [some (dice D (nxA D j3 5))] := fun c => kpick_spec D j3 pgL c (by decide) (by decide) hl hr
  generalize pkV D j3 pgL = v3 at *
  generalize nxA D j3 5 = j4 at *
  have n4 : ∀ c, FnSpec Try.prog 13 [dp, gi adL c] [dice D j4] (i1 (pkV D j4 adL)) [some (dice D (nxA D j4 7))] := fun c => kpick_spec D j4 adL c (by decide) (by decide) hl hr
  generalize pkV D j4 adL = v4 at *
  generalize nxA D j4 7 = j5 at *
  have hal := cd_len acc
  have htk : List.take (acc.length * 4) (Cs acc) = Cs acc := zaW (by rw [hal]; exact Nat.le_refl _)
  have hpp : Cs acc ++ [int (id' + (1 + v1)), int g, int v3, int v4] = Cs (acc ++ [⟨id' + (1 + v1), g, v3, v4⟩]) := Cs_snoc acc ⟨id' + (1 + v1), g, v3, v4⟩
  have hla : (acc ++ [(⟨id' + (1 + v1), g, v3, v4⟩ : Cd)]).length = acc.length + 1 := by simp
  generalize acc ++ [(⟨id' + (1 + v1), g, v3, v4⟩ : Cd)] = acc2 at *
  have hm1 : ((m + 1 : Nat) : Int) - 1 = (m : Int) := by omega
  simp only [go_sem, zaa, zai, zaj, zak, zal, zaf, ↓reduceIte, reduceCtorEq, zab, zac, zam, zan, zao, decide_eq_true c, lendK, ht, q1, htk, hpp, hm1]
  repeat' (first
 | with_reducible refine zaw ?_ ?_
 | (unfold OKC; kernel_rfl)
 | (unfold EDG; kernel_rfl)
 | (apply cl_lend
    case hr => (simp only [zae, zag, hpL', lookR, zaa, if_true, if_false]; first | exact map1 _ | exact map2 _ _ | exact map3 _ _ _)
    case ha => (simp only [zae, zag, prepV, prepC, idx, hpL', lookR, zaa, if_true, if_false]; rfl)
    case hs => rfl
    case hn => decide
    case h => (first | exact n1 .. | exact n2 .. | exact n3 .. | exact n4 ..)
    case hf => (simp only [zad, zah, false_implies, implies_true, and_true, true_and, flat_cons, flat_nil, flat_ints, flat_bools, flat_app, Cs_flat, zaQ, and_self, eq_self_iff_true, zap])
    case hl => (simp only [zat, zau]; decide))
 | (apply cl_use
    case hr => (simp only [zae, zag, hpL', lookR, zaa, if_true, if_false]; first | exact map0 | exact map1 _ | exact map2 _ _ | exact map3 _ _ _)
    case ha => (simp only [zae, zag, prepV, prepC, idx, hpL', lookR, zaa, if_true, if_false]; rfl)
    case hs => (simp only [snaps, SV.refs, zaQ, idx, List.flatMap_cons, List.flatMap_nil, zaE, zaD, zap, List.filter_cons, List.filter_nil, zaa, if_true, if_false, Option.isNone_none, Option.isNone_some, Bool.false_eq_true, reduceCtorEq, ↓reduceIte]; rfl)
    case hn => decide
    case h => (first | exact n1 .. | exact n2 .. | exact n3 .. | exact n4 ..)
    case hf => (simp only [zad, zah, false_implies, implies_true, and_true, true_and, flat_cons, flat_nil, flat_ints, flat_bools, flat_app, Cs_flat, zaQ, and_self, eq_self_iff_true, zap])
    case hg => ((simp [hpL', lookR, Cell.isG]) <;> (repeat' apply zaw) <;> (first | exact Ints_isG _ | exact Cs_isG _))
    case hl => (simp only [zat, zau]; decide))
 | ((first | refine s1_id ?_ | refine swp_id ?_ | refine sops_id ?_ | refine s2_id ?_); simp only [decide_eq_true c, lendK, dice, ht, q1, htk, hpp, hm1, zaC, zaF, zap, zaD, zaE, zay, zaA, zax, zaI, zaM, zat, zau, go_sem, zaa, zai, zaj, zak, zal, zaf, ↓reduceIte, reduceCtorEq, zab, zac, zam, zan, zao, zaR, zaS, zaB, zaP, renO, bk, back, outUpsFrom, Ints_ren])
 | (intros; omega)
 | (intros; (try simp only [zaq, zaH, zaz, zav, zas, zar, decide_eq_true_eq, decide_eq_false_iff_not] at *); omega))
  refine le_mk (m, j5, id' + (1 + v1), acc2) ?_ ⟨by show m ≤ 8; omega, by show acc2.length ≤ 8 - m; omega, by show 0 ≤ id' + (1 + v1); omega, by show id' + (1 + v1) ≤ 3 * (8 - (m : Int)); omega, hI⟩ (Nat.lt_succ_self m)
  simp only [hla]
  (refine imp_ren _ _ _ [(0, 0, dice D j5), (1, 1, ⟨[.gsl (Cs l) 0 l.length none, int n], 2⟩), (2, 31, ⟨Cs acc2, 4⟩)] (by simp) (by simp) (by simp) (zaL rfl) ?_ rfl (by simp only [zad, zah, false_implies, implies_true, and_true, zaT, lookR, zaa, if_true, if_false, ↓reduceIte, dice, Cs_flat] <;> (repeat' apply zaw) <;> (first | rfl | trivial)) (by simp only [zad, zah, false_implies, implies_true, and_true, true_and, flat_cons, flat_nil, flat_ints, flat_bools, flat_app, zaQ, and_self, eq_self_iff_true, zap, dice, Cs_flat]); simp only [zae, zag, zad, zah, false_implies, implies_true, and_true, lk, slot, zaR, zaB, toN, zaa, if_true, if_false, ↓reduceIte, reduceCtorEq])
  all_goals ((repeat' apply zaw) <;> (first | rfl | trivial))
end Go.Proofs.Ytlajelbiniakpaa
-- NEWGO
-- PRUNE: cl_lendx cl_use
-- ISG: Cs_isG
-- FLAT: Cs_flat
namespace Go.Proofs.Ytlajelbiniakpaa
set_option linter.unusedVariables false
set_option linter.unusedSimpArgs false
open Go.Proofs.Ytlajelbiniakpaa.Sh
set_option maxRecDepth 20000
def gpF (G : List Int) (at' : Int) : List Int → Int → Int
  | [], acc => acc
  | a :: r, acc => if a = at' then (if a ∈ G then a else acc) else gpF G at' r (if a ∈ G then a else acc)
def grM (l : List Nd) (n : Int) (G : List Int) (at' : Int) (c : Cd) : Int := gpF G at' (ancM l n c.g) 0
def prM (l : List Nd) (n : Int) (C : List Cd) (g : Int) (v : Int) : List Int := if g = 0 then [v] else (wiM l n C g).map (·.p)
def deM (l : List Nd) (n : Int) (C : List Cd) (G : List Int) (at' t : Int) : (Int × List Int × Int) × Int :=
  if (viM l n C at' t).2 = 0 then (((viM l n C at' t).1.p, prM l n C (grM l n G at' (viM l n C at' t).1) (viM l n C at' t).1.p, grM l n G at' (viM l n C at' t).1), 0) else ((0, [], 0), (viM l n C at' t).2)
set_option maxHeartbeats 32000000 in
theorem decide_own (l : List Nd) (n : Int) (C : List Cd) (k : Option Nat) (G : List Int) (kg : Option Nat) (at' t : Int) (hl : l.length ≤ 1000000) (hC : C.length ≤ 1000000) (hG : G.length ≤ 9223372036854775807) (hnm : NmR l) (hct : CtR l) : FnSpec Try.prog 21 [trV l none n, gr C k, gi G kg, i1 at', i1 t] [] (.tup [.agg [int (deM l n C G at' t).1.1, .osl 0 0 (deM l n C G at' t).1.2.1.length none, int (deM l n C G at' t).1.2.2], i1 (deM l n C G at' t).2]) [some ⟨Ints (deM l n C G at' t).1.2.1, 1⟩] := by
  have h1 := victim1_spec l n C k at' t hl hC hnm hct
  unfold deM
  by_cases he : (viM l n C at' t).2 = 0
  case neg =>
    rw [if_neg he]
    generalize viM l n C at' t = q at *
    obtain ⟨⟨p, g, m, a⟩, e⟩ := q
    simp only [cdc] at h1 he ⊢
    refine fnspec_of mixed TT_ok TT_cl ⟨fun _ => false, fun _ => [], 0, fun _ => false, fun _ => false⟩ Try.func21 rfl (by kernel_rfl) rfl 78 rfl [.cell 10 52, .tmp 11] rfl ?_
    simp only [go_sem, zaa, zai, zaj, zak, zal, zaf, ↓reduceIte, reduceCtorEq, zab, zac, zam, zan, zao, decide_eq_false he]
    repeat' (first
 | (apply cl_plain
    case hs => rfl
    case ha => (simp only [zae, zag, prepV, prepC, idx, hpL', lookR, zaa, if_true, if_false]; rfl)
    case h => (first | exact h1 ..))
 | ((first | refine s1_id ?_ | refine swp_id ?_ | refine sops_id ?_ | refine s2_id ?_); simp only [decide_eq_false he, zaC, zaF, zap, zaD, zaE, zay, zaA, zax, zaI, zaM, zat, zau, go_sem, zaa, zai, zaj, zak, zal, zaf, ↓reduceIte, reduceCtorEq, zab, zac, zam, zan, zao, zaR, zaS, zaB, zaP, renO, bk, back, outUpsFrom, Ints_ren])
 | (intros; (try simp only [zaq, zaH, zaz, zav, zas, zar, decide_eq_true_eq, decide_eq_false_iff_not] at *); omega))
    refine fs_imp _ (imp_nilC _ _ 1 1 1 99 (by simp only []; omega) (by simp only [zaT, lookR, zaa, if_true, if_false, ↓reduceIte]; rfl) rfl) ?_
    (refine fs_flat [(99, ⟨[], 1⟩)] (by simp) (by simp only [zae, zag]; decide) (by simp only [go_sem, resV, resS, zaR, zaS, zaB, zba, zaT, idx, renO, zaP, evS, slot, lookR, zaa, ↓reduceIte, reduceCtorEq, if_true, if_false, zaN, zaO, zae, zag, sLoad, readAt, readNeed, Ints_ren, Ints_length, Ints_getD, and_true, true_and, zaJ, zaK]; try decide) ?_ (by simp only [zad, zah, false_implies, implies_true, and_true, zaT, lookR, zaa, if_true, if_false, ↓reduceIte] <;> (repeat' apply zaw) <;> (first | rfl | trivial)) (by simp only [zad, zah, false_implies, implies_true, and_true, true_and, flat_cons, flat_nil, flat_ints, flat_bools, flat_app, zaQ, and_self, eq_self_iff_true, zap]) ?_ <;> (try simp only [go_sem, resV, resS, zaR, zaS, zaB, zba, zaT, idx, renO, zaP, evS, slot, lookR, zaa, ↓reduceIte, reduceCtorEq, if_true, if_false, zaN, zaO, zae, zag, sLoad, readAt, readNeed, Ints_ren, Ints_length, Ints_getD, and_true, true_and, zaJ, zaK]) <;> (try rfl))
  rw [if_pos he]
  have h2 := fun c : Cd => tanc_spec l n c.g hl hnm hct
  have h2l := fun c : Cd => ancM_len l n c.g
  have h3 := fun g => within_spec l n C k g hl hC hnm hct
  have h3l : ∀ g, (wiM l n C g).length ≤ C.length := fun g => List.length_filter_le _ _
  generalize hq : viM l n C at' t = q at *
  obtain ⟨c, e⟩ := q
  simp only at he
  subst he
  obtain ⟨GR, hGR⟩ : ∃ GR, grM l n G at' c = GR := ⟨_, rfl⟩
  simp only
  rw [hGR]
  unfold grM at hGR
  have h2 := h2 c
  have h2l := h2l c
  clear hq
  obtain ⟨p, g, m, a⟩ := c
  simp only [cdc] at h1 h2 h2l hGR ⊢
  generalize ancM l n g = U at *
  have h3 := h3 GR
  have h3l := h3l GR
  have hk : ∀ k x, FnSpec Try.prog 35 [gi G k, i1 x] [] (b1 (decide (x ∈ G))) [] := fun k x => kccon_spec G k x hG
  unfold prM
  generalize wiM l n C GR = W at *
  refine fnspec_of mixed TT_ok TT_cl ⟨fun _ => false, fun _ => [], 0, fun _ => false, fun _ => false⟩ Try.func21 rfl (by kernel_rfl) rfl 78 rfl [.cell 10 52, .tmp 11] rfl ?_
  simp only [go_sem, zaa, zai, zaj, zak, zal, zaf, ↓reduceIte, reduceCtorEq, zab, zac, zam, zan, zao]
  repeat' (first
 | (apply cl_plain
    case hs => rfl
    case ha => (simp only [zae, zag, prepV, prepC, idx, hpL', lookR, zaa, if_true, if_false]; rfl)
    case h => (first | exact h1 .. | exact h2 ..))
 | ((first | refine s1_id ?_ | refine swp_id ?_ | refine sops_id ?_ | refine s2_id ?_); simp only [decide_true, zaC, zaF, zap, zaD, zaE, zay, zaA, zax, zaI, zaM, zat, zau, go_sem, zaa, zai, zaj, zak, zal, zaf, ↓reduceIte, reduceCtorEq, zab, zac, zam, zan, zao, zaR, zaS, zaB, zaP, renO, bk, back, outUpsFrom, Ints_ren])
 | (intros; (try simp only [zaq, zaH, zaz, zav, zas, zar, decide_eq_true_eq, decide_eq_false_iff_not] at *); omega))
  refine w_loop (ι := Nat × Int) (fun s => ⟨[(1, gr C k), (2, gi G kg), (3, i1 at'), (5, .one (.optr 0 0)), (10, .one (.optr 1 0)), (14, .one (.optr 2 0)), (40, gi U none), (41, i1 U.length), (42, i1 s.1)], [(0, some ⟨[.gsl (Cs l) 0 l.length none, int n], 2⟩), (1, some ⟨[int 0, .sc (.slice none 0 0), int 0], 3⟩), (2, some ⟨[int p, .osl 3 0 1 (some 1), int s.2], 3⟩), (3, some ⟨Ints [p], 1⟩)], 4⟩) (fun s => s.1 ≤ U.length ∧ gpF G at' (U.drop s.1) s.2 = GR) (fun s => U.length - s.1) (0, 0) ?_ ⟨zaX _, hGR⟩ ?_
  · (refine imp_sub _ _ _ [(0, 0), (1, 1), (2, 22), (3, 20)] (by simp) (by simp) (by simp) (zaL rfl) ?_ (by simp only [zae, zag, zaT, lookR, renO, zaP, zaB, toN, Ints_ren, Bools_ren, zaa, if_true, if_false, ↓reduceIte] <;> (try rfl)) (by simp only [zad, zah, false_implies, implies_true, and_true, zaT, lookR, zaa, if_true, if_false, ↓reduceIte, Option.some.injEq, forall_eq'] <;> ((repeat' with_reducible apply zaw) <;> (first | with_reducible trivial | exact fun c hc q hq => absurd hq (Ints_refs0 _ _ c hc) | (simp [zaQ, toN]; done)))); simp only [zae, zag, zad, zah, false_implies, implies_true, and_true, lk, slot, zaR, zaB, toN, zaa, if_true, if_false, ↓reduceIte, reduceCtorEq])
    all_goals ((repeat' apply zaw) <;> (first | rfl | trivial))
  clear h1 h2 hGR
  rintro ⟨i, acc⟩ ⟨hi, hI⟩
  simp only at hi hI ⊢
  have hway : (U.length ≤ i ∧ GR = acc) ∨ (i < U.length ∧ ∃ a, U.getD i 0 = a ∧ ((a = at' ∧ ((a ∈ G ∧ GR = a) ∨ (¬ a ∈ G ∧ GR = acc))) ∨ (a ≠ at' ∧ ((a ∈ G ∧ gpF G at' (U.drop (i + 1)) a = GR) ∨ (¬ a ∈ G ∧ gpF G at' (U.drop (i + 1)) acc = GR))))) := by
    rcases zaZ i U.length with hlt | hge
    · right
      refine ⟨hlt, U.getD i 0, rfl, ?_⟩
      rw [drop_getD U i 0 hlt, gpF] at hI
      generalize U.getD i 0 = a at *
      by_cases h1 : a = at'
      · rw [if_pos h1] at hI
        by_cases h2 : a ∈ G
        · rw [if_pos h2] at hI; exact .inl ⟨h1, .inl ⟨h2, hI.symm⟩⟩
        · rw [if_neg h2] at hI; exact .inl ⟨h1, .inr ⟨h2, hI.symm⟩⟩
      · rw [if_neg h1] at hI
        by_cases h2 : a ∈ G
        · rw [if_pos h2] at hI; exact .inr ⟨h1, .inl ⟨h2, hI⟩⟩
        · rw [if_neg h2] at hI; exact .inr ⟨h1, .inr ⟨h2, hI⟩⟩
    · left
      rw [List.drop_of_length_le hge, gpF] at hI
      exact ⟨hge, hI.symm⟩
  clear hI
  rcases hway with ⟨hge, hI⟩ | ⟨hlt, a', hel, ⟨hat, ⟨hin, hI⟩ | ⟨hin, hI⟩⟩ | ⟨hat, ⟨hin, hI⟩ | ⟨hin, hI⟩⟩⟩
  focus
    have c : ¬ (i : Int) < (U.length : Int) := by omega
    subst hI
    by_cases h0 : GR = 0
    focus
      rw [if_pos h0]
      simp only [go_sem, zaa, zai, zaj, zak, zal, zaf, ↓reduceIte, reduceCtorEq, zab, zac, zam, zan, zao, decide_eq_false c, decide_eq_true h0]
      repeat' (first
 | (intros; (try simp only [zaq, zaH, zaz, zav, zas, zar, decide_eq_true_eq, decide_eq_false_iff_not] at *); omega))
      subst h0
      refine fs_res (res0 := .tup [.agg [int p, .osl 0 0 1 (some 1), int 0], i1 0]) (svw_of (by simp only [sw_tup, swl_cons, swl_nil, sw_agg, sw_one, cwl_cons, cwl_nil, cw_id, and_true, true_and]; exact cw_ocap _ _ _ _)) ?_
      (refine fs_mk [3] (by simp) (by decide) (by simp only [go_sem, resV, resS, zaR, zaS, zaB, zba, zaT, idx, renO, zaP, evS, slot, lookR, zaa, ↓reduceIte, reduceCtorEq, if_true, if_false, zaN, zaO, zae, zag, sLoad, readAt, readNeed, Ints_ren, Ints_length, Ints_getD, and_true, true_and, zaJ, zaK]; try decide) ?_ ?_ ?_ <;> (try simp only [go_sem, resV, resS, zaR, zaS, zaB, zba, zaT, idx, renO, zaP, evS, slot, lookR, zaa, ↓reduceIte, reduceCtorEq, if_true, if_false, zaN, zaO, zae, zag, sLoad, readAt, readNeed, Ints_ren, Ints_length, Ints_getD, and_true, true_and, zaJ, zaK, zaT, lookR, renO, zaP, zaB, idx, zae, zag, Ints_ren, zad, zah, false_implies, implies_true, Option.some.injEq, forall_eq', and_true, true_and]) <;> (try rfl) <;> (try ((repeat' apply zaw) <;> (first | trivial | exact fun c hc q hq => absurd hq (Ints_refs0 _ _ c hc) | (simp [zaQ]; done)))))
    focus
      rw [if_neg h0]
      simp only [go_sem, zaa, zai, zaj, zak, zal, zaf, ↓reduceIte, reduceCtorEq, zab, zac, zam, zan, zao, decide_eq_false c, decide_eq_false h0]
      repeat' (first
 | (apply cl_plain
    case hs => rfl
    case ha => (simp only [zae, zag, prepV, prepC, idx, hpL', lookR, zaa, if_true, if_false]; rfl)
    case h => (first | exact hk .. | exact h3 ..))
 | ((first | refine s1_id ?_ | refine swp_id ?_ | refine sops_id ?_ | refine s2_id ?_); simp only [decide_eq_false c, decide_eq_false h0, zaC, zaF, zap, zaD, zaE, zay, zaA, zax, zaI, zaM, zat, zau, go_sem, zaa, zai, zaj, zak, zal, zaf, ↓reduceIte, reduceCtorEq, zab, zac, zam, zan, zao, zaR, zaS, zaB, zaP, renO, bk, back, outUpsFrom, Ints_ren])
 | (intros; (try simp only [zaq, zaH, zaz, zav, zas, zar, decide_eq_true_eq, decide_eq_false_iff_not] at *); omega))
      refine w_loop (ι := Nat) (fun m => ⟨[(10, .one (.optr 0 0)), (14, .one (.optr 1 0)), (63, gr W none), (64, i1 W.length), (65, i1 m)], [(0, some ⟨[int 0, .sc (.slice none 0 0), int 0], 3⟩), (1, some ⟨[int p, .osl 2 0 m none, int GR], 3⟩), (2, some ⟨Ints ((W.take m).map (·.p)), 1⟩)], 3⟩) (fun m => m ≤ W.length) (fun m => W.length - m) 0 ?_ (zaX _) ?_
      focus
        (refine Imp.trans (imp_nilC _ _ 2 1 1 99 (by simp only []; omega) (by simp only [zaT, lookR, zaa, if_true, if_false, ↓reduceIte]; rfl) rfl) ?_)
        (refine imp_sub _ _ _ [(0, 1), (1, 2), (2, 99)] (by simp) (by simp) (by simp) (zaL rfl) ?_ (by simp only [zae, zag, zaT, lookR, renO, zaP, zaB, toN, Ints_ren, Bools_ren, zaa, if_true, if_false, ↓reduceIte] <;> (try rfl)) (by simp only [zad, zah, false_implies, implies_true, and_true, zaT, lookR, zaa, if_true, if_false, ↓reduceIte, Option.some.injEq, forall_eq'] <;> ((repeat' with_reducible apply zaw) <;> (first | with_reducible trivial | exact fun c hc q hq => absurd hq (Ints_refs0 _ _ c hc) | (simp [zaQ, toN]; done)))); simp only [zae, zag, zad, zah, false_implies, implies_true, and_true, lk, slot, zaR, zaB, toN, zaa, if_true, if_false, ↓reduceIte, reduceCtorEq])
        all_goals ((repeat' apply zaw) <;> (first | rfl | trivial))
  rotate_left
  focus
    have c : (i : Int) < (U.length : Int) := by omega
    subst hI
    by_cases h0 : GR = 0
    focus
      rw [if_pos h0]
      simp only [go_sem, zaa, zai, zaj, zak, zal, zaf, ↓reduceIte, reduceCtorEq, zab, zac, zam, zan, zao, decide_eq_true c, hel, decide_eq_true hat, decide_eq_true hin, decide_eq_true h0]
      repeat' (first
 | with_reducible refine zaw ?_ ?_
 | (apply cl_plain
    case hs => rfl
    case ha => (simp only [zae, zag, prepV, prepC, idx, hpL', lookR, zaa, if_true, if_false]; rfl)
    case h => (first | exact hk ..))
 | ((first | refine s1_id ?_ | refine swp_id ?_ | refine sops_id ?_ | refine s2_id ?_); simp only [decide_eq_true c, hel, decide_eq_true hat, decide_eq_true hin, decide_eq_true h0, zaC, zaF, zap, zaD, zaE, zay, zaA, zax, zaI, zaM, zat, zau, go_sem, zaa, zai, zaj, zak, zal, zaf, ↓reduceIte, reduceCtorEq, zab, zac, zam, zan, zao, zaR, zaS, zaB, zaP, renO, bk, back, outUpsFrom, Ints_ren])
 | (intros; omega)
 | (intros; (try simp only [zaq, zaH, zaz, zav, zas, zar, decide_eq_true_eq, decide_eq_false_iff_not] at *); omega))
      subst h0
      refine fs_res (res0 := .tup [.agg [int p, .osl 0 0 1 (some 1), int 0], i1 0]) (svw_of (by simp only [sw_tup, swl_cons, swl_nil, sw_agg, sw_one, cwl_cons, cwl_nil, cw_id, and_true, true_and]; exact cw_ocap _ _ _ _)) ?_
      (refine fs_mk [3] (by simp) (by decide) (by simp only [go_sem, resV, resS, zaR, zaS, zaB, zba, zaT, idx, renO, zaP, evS, slot, lookR, zaa, ↓reduceIte, reduceCtorEq, if_true, if_false, zaN, zaO, zae, zag, sLoad, readAt, readNeed, Ints_ren, Ints_length, Ints_getD, and_true, true_and, zaJ, zaK]; try decide) ?_ ?_ ?_ <;> (try simp only [go_sem, resV, resS, zaR, zaS, zaB, zba, zaT, idx, renO, zaP, evS, slot, lookR, zaa, ↓reduceIte, reduceCtorEq, if_true, if_false, zaN, zaO, zae, zag, sLoad, readAt, readNeed, Ints_ren, Ints_length, Ints_getD, and_true, true_and, zaJ, zaK, zaT, lookR, renO, zaP, zaB, idx, zae, zag, Ints_ren, zad, zah, false_implies, implies_true, Option.some.injEq, forall_eq', and_true, true_and]) <;> (try rfl) <;> (try ((repeat' apply zaw) <;> (first | trivial | exact fun c hc q hq => absurd hq (Ints_refs0 _ _ c hc) | (simp [zaQ]; done)))))
    focus
      rw [if_neg h0]
      simp only [go_sem, zaa, zai, zaj, zak, zal, zaf, ↓reduceIte, reduceCtorEq, zab, zac, zam, zan, zao, decide_eq_true c, hel, decide_eq_true hat, decide_eq_true hin, decide_eq_false h0]
      repeat' (first
 | with_reducible refine zaw ?_ ?_
 | (apply cl_plain
    case hs => rfl
    case ha => (simp only [zae, zag, prepV, prepC, idx, hpL', lookR, zaa, if_true, if_false]; rfl)
    case h => (first | exact hk .. | exact h3 ..))
 | ((first | refine s1_id ?_ | refine swp_id ?_ | refine sops_id ?_ | refine s2_id ?_); simp only [decide_eq_true c, hel, decide_eq_true hat, decide_eq_true hin, decide_eq_false h0, zaC, zaF, zap, zaD, zaE, zay, zaA, zax, zaI, zaM, zat, zau, go_sem, zaa, zai, zaj, zak, zal, zaf, ↓reduceIte, reduceCtorEq, zab, zac, zam, zan, zao, zaR, zaS, zaB, zaP, renO, bk, back, outUpsFrom, Ints_ren])
 | (intros; omega)
 | (intros; (try simp only [zaq, zaH, zaz, zav, zas, zar, decide_eq_true_eq, decide_eq_false_iff_not] at *); omega))
      refine w_loop (ι := Nat) (fun m => ⟨[(10, .one (.optr 0 0)), (14, .one (.optr 1 0)), (63, gr W none), (64, i1 W.length), (65, i1 m)], [(0, some ⟨[int 0, .sc (.slice none 0 0), int 0], 3⟩), (1, some ⟨[int p, .osl 2 0 m none, int GR], 3⟩), (2, some ⟨Ints ((W.take m).map (·.p)), 1⟩)], 3⟩) (fun m => m ≤ W.length) (fun m => W.length - m) 0 ?_ (zaX _) ?_
      focus
        (refine Imp.trans (imp_nilC _ _ 2 1 1 99 (by simp only []; omega) (by simp only [zaT, lookR, zaa, if_true, if_false, ↓reduceIte]; rfl) rfl) ?_)
        (refine imp_sub _ _ _ [(0, 1), (1, 2), (2, 99)] (by simp) (by simp) (by simp) (zaL rfl) ?_ (by simp only [zae, zag, zaT, lookR, renO, zaP, zaB, toN, Ints_ren, Bools_ren, zaa, if_true, if_false, ↓reduceIte] <;> (try rfl)) (by simp only [zad, zah, false_implies, implies_true, and_true, zaT, lookR, zaa, if_true, if_false, ↓reduceIte, Option.some.injEq, forall_eq'] <;> ((repeat' with_reducible apply zaw) <;> (first | with_reducible trivial | exact fun c hc q hq => absurd hq (Ints_refs0 _ _ c hc) | (simp [zaQ, toN]; done)))); simp only [zae, zag, zad, zah, false_implies, implies_true, and_true, lk, slot, zaR, zaB, toN, zaa, if_true, if_false, ↓reduceIte, reduceCtorEq])
        all_goals ((repeat' apply zaw) <;> (first | rfl | trivial))
  rotate_left
  focus
    have c : (i : Int) < (U.length : Int) := by omega
    subst hI
    by_cases h0 : GR = 0
    focus
      rw [if_pos h0]
      simp only [go_sem, zaa, zai, zaj, zak, zal, zaf, ↓reduceIte, reduceCtorEq, zab, zac, zam, zan, zao, decide_eq_true c, hel, decide_eq_true hat, decide_eq_false hin, decide_eq_true h0]
      repeat' (first
 | with_reducible refine zaw ?_ ?_
 | (apply cl_plain
    case hs => rfl
    case ha => (simp only [zae, zag, prepV, prepC, idx, hpL', lookR, zaa, if_true, if_false]; rfl)
    case h => (first | exact hk ..))
 | ((first | refine s1_id ?_ | refine swp_id ?_ | refine sops_id ?_ | refine s2_id ?_); simp only [decide_eq_true c, hel, decide_eq_true hat, decide_eq_false hin, decide_eq_true h0, zaC, zaF, zap, zaD, zaE, zay, zaA, zax, zaI, zaM, zat, zau, go_sem, zaa, zai, zaj, zak, zal, zaf, ↓reduceIte, reduceCtorEq, zab, zac, zam, zan, zao, zaR, zaS, zaB, zaP, renO, bk, back, outUpsFrom, Ints_ren])
 | (intros; omega)
 | (intros; (try simp only [zaq, zaH, zaz, zav, zas, zar, decide_eq_true_eq, decide_eq_false_iff_not] at *); omega))
      subst h0
      refine fs_res (res0 := .tup [.agg [int p, .osl 0 0 1 (some 1), int 0], i1 0]) (svw_of (by simp only [sw_tup, swl_cons, swl_nil, sw_agg, sw_one, cwl_cons, cwl_nil, cw_id, and_true, true_and]; exact cw_ocap _ _ _ _)) ?_
      (refine fs_mk [3] (by simp) (by decide) (by simp only [go_sem, resV, resS, zaR, zaS, zaB, zba, zaT, idx, renO, zaP, evS, slot, lookR, zaa, ↓reduceIte, reduceCtorEq, if_true, if_false, zaN, zaO, zae, zag, sLoad, readAt, readNeed, Ints_ren, Ints_length, Ints_getD, and_true, true_and, zaJ, zaK]; try decide) ?_ ?_ ?_ <;> (try simp only [go_sem, resV, resS, zaR, zaS, zaB, zba, zaT, idx, renO, zaP, evS, slot, lookR, zaa, ↓reduceIte, reduceCtorEq, if_true, if_false, zaN, zaO, zae, zag, sLoad, readAt, readNeed, Ints_ren, Ints_length, Ints_getD, and_true, true_and, zaJ, zaK, zaT, lookR, renO, zaP, zaB, idx, zae, zag, Ints_ren, zad, zah, false_implies, implies_true, Option.some.injEq, forall_eq', and_true, true_and]) <;> (try rfl) <;> (try ((repeat' apply zaw) <;> (first | trivial | exact fun c hc q hq => absurd hq (Ints_refs0 _ _ c hc) | (simp [zaQ]; done)))))
    focus
      rw [if_neg h0]
      simp only [go_sem, zaa, zai, zaj, zak, zal, zaf, ↓reduceIte, reduceCtorEq, zab, zac, zam, zan, zao, decide_eq_true c, hel, decide_eq_true hat, decide_eq_false hin, decide_eq_false h0]
      repeat' (first
 | with_reducible refine zaw ?_ ?_
 | (apply cl_plain
    case hs => rfl
    case ha => (simp only [zae, zag, prepV, prepC, idx, hpL', lookR, zaa, if_true, if_false]; rfl)
    case h => (first | exact hk .. | exact h3 ..))
 | ((first | refine s1_id ?_ | refine swp_id ?_ | refine sops_id ?_ | refine s2_id ?_); simp only [decide_eq_true c, hel, decide_eq_true hat, decide_eq_false hin, decide_eq_false h0, zaC, zaF, zap, zaD, zaE, zay, zaA, zax, zaI, zaM, zat, zau, go_sem, zaa, zai, zaj, zak, zal, zaf, ↓reduceIte, reduceCtorEq, zab, zac, zam, zan, zao, zaR, zaS, zaB, zaP, renO, bk, back, outUpsFrom, Ints_ren])
 | (intros; omega)
 | (intros; (try simp only [zaq, zaH, zaz, zav, zas, zar, decide_eq_true_eq, decide_eq_false_iff_not] at *); omega))
      refine w_loop (ι := Nat) (fun m => ⟨[(10, .one (.optr 0 0)), (14, .one (.optr 1 0)), (63, gr W none), (64, i1 W.length), (65, i1 m)], [(0, some ⟨[int 0, .sc (.slice none 0 0), int 0], 3⟩), (1, some ⟨[int p, .osl 2 0 m none, int GR], 3⟩), (2, some ⟨Ints ((W.take m).map (·.p)), 1⟩)], 3⟩) (fun m => m ≤ W.length) (fun m => W.length - m) 0 ?_ (zaX _) ?_
      focus
        (refine Imp.trans (imp_nilC _ _ 2 1 1 99 (by simp only []; omega) (by simp only [zaT, lookR, zaa, if_true, if_false, ↓reduceIte]; rfl) rfl) ?_)
        (refine imp_sub _ _ _ [(0, 1), (1, 2), (2, 99)] (by simp) (by simp) (by simp) (zaL rfl) ?_ (by simp only [zae, zag, zaT, lookR, renO, zaP, zaB, toN, Ints_ren, Bools_ren, zaa, if_true, if_false, ↓reduceIte] <;> (try rfl)) (by simp only [zad, zah, false_implies, implies_true, and_true, zaT, lookR, zaa, if_true, if_false, ↓reduceIte, Option.some.injEq, forall_eq'] <;> ((repeat' with_reducible apply zaw) <;> (first | with_reducible trivial | exact fun c hc q hq => absurd hq (Ints_refs0 _ _ c hc) | (simp [zaQ, toN]; done)))); simp only [zae, zag, zad, zah, false_implies, implies_true, and_true, lk, slot, zaR, zaB, toN, zaa, if_true, if_false, ↓reduceIte, reduceCtorEq])
        all_goals ((repeat' apply zaw) <;> (first | rfl | trivial))
  rotate_left
  focus
    have c : (i : Int) < (U.length : Int) := by omega
    simp only [go_sem, zaa, zai, zaj, zak, zal, zaf, ↓reduceIte, reduceCtorEq, zab, zac, zam, zan, zao, decide_eq_true c, hel, decide_eq_false hat, decide_eq_true hin]
    repeat' (first
 | with_reducible refine zaw ?_ ?_
 | (apply cl_plain
    case hs => rfl
    case ha => (simp only [zae, zag, prepV, prepC, idx, hpL', lookR, zaa, if_true, if_false]; rfl)
    case h => (first | exact hk ..))
 | ((first | refine s1_id ?_ | refine swp_id ?_ | refine sops_id ?_ | refine s2_id ?_); simp only [decide_eq_true c, hel, decide_eq_false hat, decide_eq_true hin, zaC, zaF, zap, zaD, zaE, zay, zaA, zax, zaI, zaM, zat, zau, go_sem, zaa, zai, zaj, zak, zal, zaf, ↓reduceIte, reduceCtorEq, zab, zac, zam, zan, zao, zaR, zaS, zaB, zaP, renO, bk, back, outUpsFrom, Ints_ren])
 | (intros; omega)
 | (intros; (try simp only [zaq, zaH, zaz, zav, zas, zar, decide_eq_true_eq, decide_eq_false_iff_not] at *); omega))
    refine le_mk (i + 1, a') ?_ ⟨hlt, hI⟩ (by show U.length - (i + 1) < U.length - i; omega)
    (refine imp_sub _ _ _ [(0, 0), (1, 1), (2, 2), (3, 3)] (by simp) (by simp) (by simp) (zaL rfl) ?_ (by simp only [zae, zag, zaT, lookR, renO, zaP, zaB, toN, Ints_ren, Bools_ren, zaa, if_true, if_false, ↓reduceIte] <;> (try rfl)) (by simp only [zad, zah, false_implies, implies_true, and_true, zaT, lookR, zaa, if_true, if_false, ↓reduceIte, Option.some.injEq, forall_eq'] <;> ((repeat' with_reducible apply zaw) <;> (first | with_reducible trivial | exact fun c hc q hq => absurd hq (Ints_refs0 _ _ c hc) | (simp [zaQ, toN]; done)))); simp only [zae, zag, zad, zah, false_implies, implies_true, and_true, lk, slot, zaR, zaB, toN, zaa, if_true, if_false, ↓reduceIte, reduceCtorEq])
    all_goals ((repeat' apply zaw) <;> (first | rfl | trivial | (simp only [zaG]; done) | (simp only [zaG]; rfl) | (simp only [zaG]; trivial)))
  focus
    have c : (i : Int) < (U.length : Int) := by omega
    simp only [go_sem, zaa, zai, zaj, zak, zal, zaf, ↓reduceIte, reduceCtorEq, zab, zac, zam, zan, zao, decide_eq_true c, hel, decide_eq_false hat, decide_eq_false hin]
    repeat' (first
 | with_reducible refine zaw ?_ ?_
 | (apply cl_plain
    case hs => rfl
    case ha => (simp only [zae, zag, prepV, prepC, idx, hpL', lookR, zaa, if_true, if_false]; rfl)
    case h => (first | exact hk ..))
 | ((first | refine s1_id ?_ | refine swp_id ?_ | refine sops_id ?_ | refine s2_id ?_); simp only [decide_eq_true c, hel, decide_eq_false hat, decide_eq_false hin, zaC, zaF, zap, zaD, zaE, zay, zaA, zax, zaI, zaM, zat, zau, go_sem, zaa, zai, zaj, zak, zal, zaf, ↓reduceIte, reduceCtorEq, zab, zac, zam, zan, zao, zaR, zaS, zaB, zaP, renO, bk, back, outUpsFrom, Ints_ren])
 | (intros; omega)
 | (intros; (try simp only [zaq, zaH, zaz, zav, zas, zar, decide_eq_true_eq, decide_eq_false_iff_not] at *); omega))
    refine le_mk (i + 1, acc) ?_ ⟨hlt, hI⟩ (by show U.length - (i + 1) < U.length - i; omega)
    (refine imp_sub _ _ _ [(0, 0), (1, 1), (2, 2), (3, 3)] (by simp) (by simp) (by simp) (zaL rfl) ?_ (by simp only [zae, zag, zaT, lookR, renO, zaP, zaB, toN, Ints_ren, Bools_ren, zaa, if_true, if_false, ↓reduceIte] <;> (try rfl)) (by simp only [zad, zah, false_implies, implies_true, and_true, zaT, lookR, zaa, if_true, if_false, ↓reduceIte, Option.some.injEq, forall_eq'] <;> ((repeat' with_reducible apply zaw) <;> (first | with_reducible trivial | exact fun c hc q hq => absurd hq (Ints_refs0 _ _ c hc) | (simp [zaQ, toN]; done)))); simp only [zae, zag, zad, zah, false_implies, implies_true, and_true, lk, slot, zaR, zaB, toN, zaa, if_true, if_false, ↓reduceIte, reduceCtorEq])
    all_goals ((repeat' apply zaw) <;> (first | rfl | trivial | (simp only [zaG]; done) | (simp only [zaG]; rfl) | (simp only [zaG]; trivial)))
  all_goals (
    intro m hm
    simp only at hm ⊢
    rcases zaZ m W.length with hlt2 | hge2
    case inr =>
      have c2 : ¬ (m : Int) < (W.length : Int) := by omega
      obtain rfl : m = W.length := by omega
      rw [List.take_length]
      simp only [go_sem, zaa, zai, zaj, zak, zal, zaf, ↓reduceIte, reduceCtorEq, zab, zac, zam, zan, zao, decide_eq_false c2]
      repeat' (first
 | (intros; (try simp only [zaq, zaH, zaz, zav, zas, zar, decide_eq_true_eq, decide_eq_false_iff_not] at *); omega))
      rw [zaY]
      (refine fs_mk [2] (by simp) (by decide) (by simp only [go_sem, resV, resS, zaR, zaS, zaB, zba, zaT, idx, renO, zaP, evS, slot, lookR, zaa, ↓reduceIte, reduceCtorEq, if_true, if_false, zaN, zaO, zae, zag, sLoad, readAt, readNeed, Ints_ren, Ints_length, Ints_getD, and_true, true_and, zaJ, zaK]; try decide) ?_ ?_ ?_ <;> (try simp only [go_sem, resV, resS, zaR, zaS, zaB, zba, zaT, idx, renO, zaP, evS, slot, lookR, zaa, ↓reduceIte, reduceCtorEq, if_true, if_false, zaN, zaO, zae, zag, sLoad, readAt, readNeed, Ints_ren, Ints_length, Ints_getD, and_true, true_and, zaJ, zaK, zaT, lookR, renO, zaP, zaB, idx, zae, zag, Ints_ren, zad, zah, false_implies, implies_true, Option.some.injEq, forall_eq', and_true, true_and]) <;> (try rfl) <;> (try ((repeat' apply zaw) <;> (first | trivial | exact fun c hc q hq => absurd hq (Ints_refs0 _ _ c hc) | (simp [zaQ]; done)))))
    have c2 : (m : Int) < (W.length : Int) := by omega
    have hWc := cd_len W
    have hat2 := cd_td W m hlt2
    have hA : ((W.take m).map (·.p)).length = m := by rw [zaY, zbb]; omega
    have hA2 : (W.take (m + 1)).map (·.p) = (W.take m).map (·.p) ++ [(gD W m).p] := by rw [take_getD W m zcd hlt2, List.map_append]; rfl
    generalize (W.take m).map (·.p) = A at *
    generalize gD W m = x at *
    obtain ⟨xp, xg, xn, xa⟩ := x
    simp only [cdc] at hat2 hA2
    have htk : List.take m (Ints A) = Ints A := zaW (by rw [Ints_length]; omega)
    have hpp : Ints A ++ [int xp] = Ints (A ++ [xp]) := by simp [Ints]
    have hAl : (Ints A).length = m := by rw [Ints_length]; exact hA
    simp only [go_sem, zaa, zai, zaj, zak, zal, zaf, ↓reduceIte, reduceCtorEq, zab, zac, zam, zan, zao, decide_eq_true c2, hat2, htk, hpp]
    repeat' (first
 | with_reducible refine zaw ?_ ?_
 | (intros; omega)
 | (intros; (try simp only [zaq, zaH, zaz, zav, zas, zar, decide_eq_true_eq, decide_eq_false_iff_not] at *); omega))
    refine le_mk (m + 1) ?_ hlt2 (by show W.length - (m + 1) < W.length - m; omega)
    simp only [hA2]
    (refine imp_sub _ _ _ [(0, 0), (1, 1), (2, 13)] (by simp) (by simp) (by simp) (zaL rfl) ?_ (by simp only [zae, zag, zaT, lookR, renO, zaP, zaB, toN, Ints_ren, Bools_ren, zaa, if_true, if_false, ↓reduceIte] <;> (try rfl)) (by simp only [zad, zah, false_implies, implies_true, and_true, zaT, lookR, zaa, if_true, if_false, ↓reduceIte, Option.some.injEq, forall_eq'] <;> ((repeat' with_reducible apply zaw) <;> (first | with_reducible trivial | exact fun c hc q hq => absurd hq (Ints_refs0 _ _ c hc) | (simp [zaQ, toN]; done)))); simp only [zae, zag, zad, zah, false_implies, implies_true, and_true, lk, slot, zaR, zaB, toN, zaa, if_true, if_false, ↓reduceIte, reduceCtorEq])
    all_goals ((repeat' apply zaw) <;> (first | rfl | trivial | (simp only [zaG]; done) | (simp only [zaG]; rfl) | (simp only [zaG]; trivial))))
end Go.Proofs.Ytlajelbiniakpaa
-- NEWGO
-- PRUNE: cl_lendx cl_use
-- ISG: scG
-- FLAT: Cs_flat
namespace Go.Proofs.Ytlajelbiniakpaa
set_option linter.unusedVariables false
set_option linter.unusedSimpArgs false
open Go.Proofs.Ytlajelbiniakpaa.Sh
set_option maxRecDepth 20000
theorem scG (v : Value) : (Cell.sc v).isG = true := rfl
theorem ksame_spec (a b : List Int) (k k2 : Option Nat) (hl : a.length ≤ 9223372036854775806) : FnSpec Try.prog 23 [gi a k, gi b k2] [] (b1 (decide (a = b))) [] := by
  by_cases hlen : a.length = b.length
  case neg =>
    have c : ¬ (a.length : Int) = (b.length : Int) := by omega
    rw [decide_eq_false (fun e => hlen (by rw [e]))]
    refine fnspec_of mixed TT_ok TT_cl ⟨fun _ => false, fun _ => [], 0, fun _ => false, fun _ => false⟩ Try.func23 rfl (by kernel_rfl) rfl 26 rfl [.tmp 4] rfl ?_
    simp only [go_sem, zaa, zai, zaj, zak, zal, zaf, ↓reduceIte, reduceCtorEq, zab, zac, zam, zan, zao, decide_eq_false c]
    repeat' (first
 | exact fs_nil trivial rfl
 | fail)
  have c : (a.length : Int) = (b.length : Int) := by omega
  refine fnspec_of mixed TT_ok TT_cl ⟨fun _ => false, fun _ => [], 0, fun _ => false, fun _ => false⟩ Try.func23 rfl (by kernel_rfl) rfl 26 rfl [.tmp 4] rfl ?_
  simp only [go_sem, zaa, zai, zaj, zak, zal, zaf, ↓reduceIte, reduceCtorEq, zab, zac, zam, zan, zao, decide_eq_true c]
  repeat' (first
 | (intros; (try simp only [zaq, zaH, zaz, zav, zas, zar, decide_eq_true_eq, decide_eq_false_iff_not] at *); omega))
  refine w_loop (ι := Nat) (fun m => ⟨[(0, gi a k), (1, gi b k2), (5, i1 m)], [], 0⟩) (fun m => m ≤ a.length ∧ a.take m = b.take m) (fun m => a.length - m) 0 ?_ ⟨zaX _, rfl⟩ ?_
  · (refine imp_sub _ _ _ [] (by simp) (by simp) (by simp) (zaX _) ?_ rfl (by simp); simp only [zad, zah, false_implies, implies_true, and_true, lk, slot, zaR, zaB, zaa, if_true, if_false, ↓reduceIte, reduceCtorEq])
    all_goals ((repeat' apply zaw) <;> (first | rfl | trivial))
  rintro m ⟨hm, he⟩
  simp only at hm he ⊢
  rcases zaZ m a.length with hlt | hge
  case inr =>
    have c2 : ¬ (m : Int) < (a.length : Int) := by omega
    rw [zaW hge, zaW (by omega)] at he
    rw [decide_eq_true he]
    simp only [go_sem, zaa, zai, zaj, zak, zal, zaf, ↓reduceIte, reduceCtorEq, zab, zac, zam, zan, zao, decide_eq_false c2]
    repeat' (first
 | exact fs_nil trivial rfl
 | fail)
  have c2 : (m : Int) < (a.length : Int) := by omega
  by_cases hx : a.getD m 0 = b.getD m 0
  · simp only [go_sem, zaa, zai, zaj, zak, zal, zaf, ↓reduceIte, reduceCtorEq, zab, zac, zam, zan, zao, decide_eq_true c2, decide_eq_true hx]
    repeat' (first
 | with_reducible refine zaw ?_ ?_
 | (unfold OKC; kernel_rfl)
 | (unfold EDG; kernel_rfl)
 | (intros; omega)
 | (intros; (try simp only [zaq, zaH, zaz, zav, zas, zar, decide_eq_true_eq, decide_eq_false_iff_not] at *); omega))
    refine le_mk (m + 1) ?_ ⟨hlt, by rw [take_getD a m 0 hlt, take_getD b m 0 (by omega), he, hx]⟩ (by show a.length - (m + 1) < a.length - m; omega)
    (refine imp_sub _ _ _ [] (by simp) (by simp) (by simp) (zaX _) ?_ rfl (by simp); simp only [zad, zah, false_implies, implies_true, and_true, lk, slot, zaR, zaB, zaa, if_true, if_false, ↓reduceIte, reduceCtorEq])
    all_goals ((repeat' apply zaw) <;> (first | rfl | trivial | (simp only [zaG]; done) | (simp only [zaG]; rfl) | (simp only [zaG]; trivial)))
  · rw [decide_eq_false (fun e => hx (by rw [e]))]
    simp only [go_sem, zaa, zai, zaj, zak, zal, zaf, ↓reduceIte, reduceCtorEq, zab, zac, zam, zan, zao, decide_eq_true c2, decide_eq_false hx]
    repeat' (first
 | with_reducible refine zaw ?_ ?_
 | (unfold OKC; kernel_rfl)
 | (unfold EDG; kernel_rfl)
 | (intros; omega)
 | exact fs_nil trivial rfl
 | fail)
abbrev kT : List Nd := [⟨1, 0, [], 0, 0, 0⟩, ⟨2, 1, [97], 0, 0, 0⟩]
abbrev kL0 : List Cd := [⟨7, 2, 100, 0⟩, ⟨8, 2, 80, 100⟩]
abbrev kL1 : List Cd := [⟨7, 2, 100, -1000⟩, ⟨8, 2, 80, -1000⟩]
set_option maxHeartbeats 16000000 in
theorem ksane_spec : FnSpec Try.prog 8 [] [] (b1 true) [] := by
  have hN : NmR kT := fun x hx => by simp only [List.mem_cons, zah, or_false] at hx; rcases hx with rfl | rfl <;> decide
  have hC : CtR kT := fun x hx => by simp only [List.mem_cons, zah, or_false] at hx; rcases hx with rfl | rfl <;> decide
  have a1 := kscore_spec ⟨8, 2, 80, 100⟩ 1000
  rw [show scM ⟨8, 2, 80, 100⟩ 1000 = (180, 0) from by kernel_rfl] at a1
  have a2 := fun k => decide_own kT 3 kL0 k [] none 1 1000 (by decide) (by decide) (by decide) hN hC
  rw [show deM kT 3 kL0 [] 1 1000 = ((8, [8], 0), 0) from by kernel_rfl] at a2
  have a3 := fun k kg => decide_own kT 3 kL0 k [2] kg 1 1000 (by decide) (by decide) (by decide) hN hC
  rw [show deM kT 3 kL0 [2] 1 1000 = ((8, [7, 8], 2), 0) from by kernel_rfl] at a3
  have a4 := fun k => victim_spec kT 3 kL1 k 1 1000 (by decide) (by decide) hN hC
  rw [show viM kT 3 kL1 1 1000 = (zcd, 21) from by kernel_rfl] at a4
  have a2' : ∀ k, FnSpec Try.prog 21 [.agg [.gsl (Cs kT) 0 2 (some 2), int 3], .one (.gsl (Cs kL0) 0 2 k), .one (.sc (.slice none 0 0)), i1 1, i1 1000] [] (.tup [.agg [int 8, .osl 0 0 1 none, int 0], i1 0]) [some ⟨Ints [8], 1⟩] := fun k => (a2 k).pre (by simp only [gi, gr, Ints, zag, swl_cons, swl_nil, sw_agg, sw_one, cwl_cons, cwl_nil, cw_id, cw_nil0, cw_cap0, zau, zat, Nat.zero_add, zai, and_true, true_and])
  have a3' : ∀ k kg, FnSpec Try.prog 21 [.agg [.gsl (Cs kT) 0 2 (some 2), int 3], .one (.gsl (Cs kL0) 0 2 k), .one (.gsl (Ints [2]) 0 1 kg), i1 1, i1 1000] [] (.tup [.agg [int 8, .osl 0 0 2 none, int 2], i1 0]) [some ⟨Ints [7, 8], 1⟩] := fun k kg => (a3 k kg).pre (by simp only [gi, gr, Ints, zag, swl_cons, swl_nil, sw_agg, sw_one, cwl_cons, cwl_nil, cw_id, cw_nil0, cw_cap0, zau, zat, Nat.zero_add, zai, and_true, true_and])
  have a4' : ∀ k, FnSpec Try.prog 18 [.agg [.gsl (Cs kT) 0 2 (some 2), int 3], .one (.gsl (Cs kL1) 0 2 k), i1 1, i1 1000] [] (.tup [i1 0, i1 21]) [] := fun k => (a4 k).pre (by simp only [gi, gr, Ints, zag, swl_cons, swl_nil, sw_agg, sw_one, cwl_cons, cwl_nil, cw_id, cw_nil0, cw_cap0, zau, zat, Nat.zero_add, zai, and_true, true_and])
  have s1 := fun k k2 => ksame_spec [8] [8] k k2 (by decide)
  have s2 := fun k k2 => ksame_spec [7, 8] [7, 8] k k2 (by decide)
  rw [decide_eq_true rfl] at s1 s2
  clear a2 a3 a4
  simp only [cdc] at a1
  refine fnspec_of mixed TT_ok TT_cl ⟨fun _ => false, fun _ => [], 0 , fun i => if i = 65 then true else if i = 85 then true else false, fun i => if i = 3 then true else false⟩ Try.func8 rfl (by kernel_rfl) rfl 95 rfl [.tmp 0] rfl ?_
  simp only [go_sem, zaa, zai, zaj, zak, zal, zaf, ↓reduceIte, reduceCtorEq, zab, zac, zam, zan, zao, zaC, zaF, zap, zaD, zaE, zay, zaA, zax, zaI, zaM, zat, zau]
  repeat' (first
 | (intros; (try simp only [zaq, zaH, zaz, zav, zas, zar, decide_eq_true_eq, decide_eq_false_iff_not] at *); omega))
  refine rgf_t _ (imp_frz _ _ 3 ⟨Cs kT, 6⟩ rfl (Cs_isG _)) ?_
  simp only [frzTm, SV.frz, SV.frzL, Cell.frz, frzHp, frzO, Ints_frz, Cs_frz, zae, zag, zaa, if_true, if_false, ↓reduceIte]
  simp only [go_sem, zaa, zai, zaj, zak, zal, zaf, ↓reduceIte, reduceCtorEq, zab, zac, zam, zan, zao, zaC, zaF, zap, zaD, zaE, zay, zaA, zax, zaI, zaM, zat, zau]
  repeat' (first
 | with_reducible refine zaw ?_ ?_
 | (apply cl_plain
    case hs => rfl
    case ha => (simp only [zae, zag, prepV, prepC, idx, hpL', lookR, zaa, if_true, if_false]; rfl)
    case h => (first | exact a1 .. | exact a2' .. | exact a3' .. | exact a4' .. | exact s1 .. | exact s2 ..))
 | (apply cl_show
    case ha => (simp only [zae, zag, prepV, prepC, idx, hpL', lookR, zaa, if_true, if_false]; rfl)
    case hs => ((simp [snaps, SV.refs, zaQ, idx, hpL', lookR]) <;> (repeat' apply zaw) <;> (first | exact Ints_isG _ | exact scG _))
    case h => (first | exact a1 .. | exact a2' .. | exact a3' .. | exact a4' .. | exact s1 .. | exact s2 ..)
    case hg => ((simp [SV.noG, SV.noGL, Cell.noG]) <;> (repeat' apply zaw) <;> exact Ints_noG _))
 | ((first | refine s1_id ?_ | refine swp_id ?_ | refine sops_id ?_ | refine s2_id ?_); simp only [decide_true, zaC, zaF, zap, zaD, zaE, zay, zaA, zax, zaI, zaM, zat, zau, go_sem, zaa, zai, zaj, zak, zal, zaf, ↓reduceIte, reduceCtorEq, zab, zac, zam, zan, zao, zaR, zaS, zaB, zaP, renO, bk, back, outUpsFrom, Ints_ren])
 | (intros; omega)
 | exact fs_nil trivial rfl
 | fail)
end Go.Proofs.Ytlajelbiniakpaa
-- NEWGO
-- PRUNE: cl_lendx cl_use
-- ISG: Cs_isG
-- FLAT: Cs_flat
namespace Go.Proofs.Ytlajelbiniakpaa
set_option linter.unusedVariables false
set_option linter.unusedSimpArgs false
open Go.Proofs.Ytlajelbiniakpaa.Sh
set_option maxRecDepth 20000
theorem kctr {l : List Nd} {n : Int} (h : VT l n) : CtR l := fun x hx => by
  have := (h.vl.all x hx).2
  unfold rngOk at this
  simp only [zaq, decide_eq_true_eq] at this
  omega
theorem vaF_asc (l : List Nd) : ∀ (C : List Cd) (last : Int), vaF l C last = true → C.Pairwise (fun x y => x.p < y.p)
  | [], _, _ => List.Pairwise.nil
  | y :: r, last, h => by
    have h' := h
    rw [vaF, zaq, zaq, zaq] at h
    refine List.pairwise_cons.2 ⟨fun x hx => (vaF_all l r y.p h.2.2.2 x hx).2.2, vaF_asc l r y.p h.2.2.2⟩
theorem vaM_asc {l : List Nd} {n : Int} {C : List Cd} (h : vaM l n C = true) : C.Pairwise (fun x y => x.p < y.p) := by
  unfold vaM at h
  rw [zaq, zaq] at h
  exact vaF_asc l C 0 h.2.2
theorem mxF_best (t : Int) : ∀ (r : List Cd) (m : Cd), (m :: r).Pairwise (fun x y => x.p < y.p) → mxF t m r ∈ m :: r ∧ ∀ y ∈ m :: r, scr y t ≤ scr (mxF t m r) t ∧ (scr y t = scr (mxF t m r) t → (mxF t m r).p ≤ y.p)
  | [], m, _ => ⟨zaU, fun y hy => by rw [List.mem_singleton.1 hy]; exact ⟨Int.le_refl _, fun _ => Int.le_refl _⟩⟩
  | x :: r, m, h => by
    have hm := List.pairwise_cons.1 h
    have hx := List.pairwise_cons.1 hm.2
    show mxF t (if scr m t < scr x t then x else m) r ∈ _ ∧ _
    by_cases c : scr m t < scr x t
    · have e : mxF t m (x :: r) = mxF t x r := by show mxF t (if scr m t < scr x t then x else m) r = _; rw [if_pos c]
      rw [if_pos c, e]
      obtain ⟨h1, h2⟩ := mxF_best t r x hm.2
      refine ⟨zaV _ h1, fun y hy => ?_⟩
      rcases List.mem_cons.1 hy with rfl | hy
      · have := (h2 x zaU).1
        exact ⟨by omega, fun e => by omega⟩
      · exact h2 y hy
    · have e : mxF t m (x :: r) = mxF t m r := by show mxF t (if scr m t < scr x t then x else m) r = _; rw [if_neg c]
      rw [if_neg c, e]
      obtain ⟨h1, h2⟩ := mxF_best t r m (List.pairwise_cons.2 ⟨fun y hy => hm.1 y (zaV _ hy), hx.2⟩)
      refine ⟨?_, fun y hy => ?_⟩
      · rcases List.mem_cons.1 h1 with h1 | h1
        · rw [h1]; exact zaU
        · exact zaV _ (zaV _ h1)
      · rcases List.mem_cons.1 hy with rfl | hy
        · exact h2 y zaU
        rcases List.mem_cons.1 hy with rfl | hy
        · have a1 := h2 m zaU
          have a2 := hm.1 y zaU
          exact ⟨by omega, fun e => by have := a1.2 (by omega); omega⟩
        · exact h2 y (zaV _ hy)
theorem mxW_best (t : Int) (W : List Cd) (h0 : W.length ≠ 0) (h : W.Pairwise (fun x y => x.p < y.p)) : mxW t W ∈ W ∧ ∀ y ∈ W, scr y t ≤ scr (mxW t W) t ∧ (scr y t = scr (mxW t W) t → (mxW t W).p ≤ y.p) := by
  cases W with
  | nil => exact absurd rfl h0
  | cons m r => exact mxF_best t r m h
theorem sub_anc {l : List Nd} {n : Int} (h : VT l n) {s t : Nat} (hs : s < l.length) (ht : t < l.length) : (gN l s).i ∈ subM l n (gN l t).i ↔ (gN l t).i ∈ ancM l n (gN l s).i := by
  have h1 : hasM l n (gN l t).i = true := hasM_iff.2 ⟨(chkT_iff l n).2 h, gN l t, getD_mem l t zn ht, rfl⟩
  have h2 : hasM l n (gN l s).i = true := hasM_iff.2 ⟨(chkT_iff l n).2 h, gN l s, getD_mem l s zn hs, rfl⟩
  unfold subM ancM
  rw [if_pos h1, if_pos h2]
  constructor
  · intro hx
    obtain ⟨i, _, _, _, hu⟩ := subF_ge h l.length t _ ht hx
    exact hu
  · intro hx
    exact subF_up h ht (by omega) s hs hx
theorem bsF_node {l : List Nd} {n id : Int} (h : VT l n) (hb : bsF Nd.i l id = true) : ∃ s, s < l.length ∧ (gN l s).i = id := by
  obtain ⟨h1, h2⟩ := bsF_at Nd.i l id hb
  exact ⟨_, h1, h2⟩
theorem bsF_of {l : List Nd} {n : Int} (h : VT l n) {t : Nat} (ht : t < l.length) : bsF Nd.i l (gN l t).i = true := (bs_found Nd.i l (fun i j hij hj => h.asc i j hij hj) t ht).2
theorem wi_iff {l : List Nd} {n : Int} {C : List Cd} (hv : vaM l n C = true) {t : Nat} (ht : t < l.length) (x : Cd) : x ∈ wiM l n C (gN l t).i ↔ x ∈ C ∧ (gN l t).i ∈ ancM l n x.g ∧ x.a ≠ -1000 := by
  obtain ⟨hV, _, hall⟩ := vaM_all hv
  unfold wiM
  rw [List.mem_filter]
  constructor
  · rintro ⟨h1, h2⟩
    obtain ⟨s, hs, es⟩ := bsF_node hV (hall x h1).2.1
    unfold outF at h2
    rw [zaz, zar, zav, decide_eq_true_eq, decide_eq_false_iff_not] at h2
    rw [← es] at h2 ⊢
    exact ⟨h1, (sub_anc hV hs ht).1 h2.1, h2.2⟩
  · rintro ⟨h1, h2, h3⟩
    obtain ⟨s, hs, es⟩ := bsF_node hV (hall x h1).2.1
    refine ⟨h1, ?_⟩
    unfold outF
    rw [zaz, zar, zav, decide_eq_true_eq, decide_eq_false_iff_not]
    rw [← es] at h2 ⊢
    exact ⟨(sub_anc hV hs ht).2 h2, h3⟩
theorem wi_asc {l : List Nd} {n : Int} {C : List Cd} (hv : vaM l n C = true) (g : Int) : (wiM l n C g).Pairwise (fun x y => x.p < y.p) := (vaM_asc hv).sublist List.filter_sublist
structure ViP (l : List Nd) (n : Int) (C : List Cd) (at' t : Int) (M : Cd) : Prop where
  mem : M ∈ C
  anc : at' ∈ ancM l n M.g
  sp : M.a ≠ -1000
  best : ∀ y ∈ C, y.a ≠ -1000 → at' ∈ ancM l n y.g → scr y t ≤ scr M t ∧ (scr y t = scr M t → M.p ≤ y.p)
theorem vi_cases {l : List Nd} {n : Int} {C : List Cd} (hv : vaM l n C = true) {s : Nat} (hs : s < l.length) {t : Int} (ht : pgk t = true) : (viM l n C (gN l s).i t = (zcd, 21) ∧ ∀ y ∈ C, y.a ≠ -1000 → ¬ (gN l s).i ∈ ancM l n y.g) ∨ ∃ M, viM l n C (gN l s).i t = (M, 0) ∧ ViP l n C (gN l s).i t M := by
  obtain ⟨hV, _, hall⟩ := vaM_all hv
  unfold viM
  rw [hv, if_pos rfl, bsF_of hV hs, if_pos rfl, ht, if_pos rfl]
  by_cases h0 : (wiM l n C (gN l s).i).length = 0
  · left
    rw [if_pos h0]
    refine ⟨rfl, fun y hy hya hyg => ?_⟩
    have := (wi_iff hv hs y).2 ⟨hy, hyg, hya⟩
    rw [List.length_eq_zero_iff.1 h0] at this
    cases this
  · right
    rw [if_neg h0]
    obtain ⟨h1, h2⟩ := mxW_best t (wiM l n C (gN l s).i) h0 (wi_asc hv _)
    obtain ⟨m1, m2, m3⟩ := (wi_iff hv hs _).1 h1
    exact ⟨_, rfl, m1, m2, m3, fun y hy hya hyg => h2 y ((wi_iff hv hs y).2 ⟨hy, hyg, hya⟩)⟩
theorem asc_inj {C : List Cd} (h : C.Pairwise (fun x y => x.p < y.p)) {x y : Cd} (hx : x ∈ C) (hy : y ∈ C) (e : x.p = y.p) : x = y := by
  induction h with
  | nil => cases hx
  | cons h1 _ ih =>
    rcases List.mem_cons.1 hx with rfl | hx'
    · rcases List.mem_cons.1 hy with rfl | hy'
      · rfl
      · have := h1 _ hy'; omega
    · rcases List.mem_cons.1 hy with rfl | hy'
      · have := h1 _ hx'; omega
      · exact ih hx' hy'
end Go.Proofs.Ytlajelbiniakpaa
-- NEWGO
-- PRUNE: cl_lendx cl_use
-- ISG: Cs_isG
-- FLAT: Cs_flat
namespace Go.Proofs.Ytlajelbiniakpaa
set_option linter.unusedVariables false
set_option linter.unusedSimpArgs false
open Go.Proofs.Ytlajelbiniakpaa.Sh
set_option maxRecDepth 20000
theorem anc_up {l : List Nd} {n : Int} (h : VT l n) {i : Nat} (hi : i < l.length) : ancM l n (gN l i).i = upL l (gN l i).i := by
  unfold ancM
  rw [if_pos (hasM_iff.2 ⟨(chkT_iff l n).2 h, gN l i, getD_mem l i zn hi, rfl⟩)]
structure DeP (l : List Nd) (n : Int) (C : List Cd) (G : List Int) (at' : Int) (M : Cd) (P : List Int) (R : Int) : Prop where
  mem : M ∈ C
  hi : ∀ s, s < l.length → (gN l s).i ∈ G → (gN l s).i ∈ ancM l n M.g → at' ∈ ancM l n (gN l s).i → R ≠ 0 ∧ R ∈ ancM l n (gN l s).i
  gr : R ≠ 0 → R ∈ G ∧ at' ∈ ancM l n R ∧ R ∈ ancM l n M.g
  ds : ∀ x ∈ C, (x.p = M.p ∨ (R ≠ 0 ∧ -1000 < x.a ∧ R ∈ ancM l n x.g)) ↔ x.p ∈ P
  fr : M.n ≤ frM P C
  len : P.length ≤ C.length + 1
end Go.Proofs.Ytlajelbiniakpaa
-- NEWGO
-- PRUNE: cl_lendx cl_use
-- ISG: Cs_isG
-- FLAT: Cs_flat
namespace Go.Proofs.Ytlajelbiniakpaa
set_option linter.unusedVariables false
set_option linter.unusedSimpArgs false
open Go.Proofs.Ytlajelbiniakpaa.Sh
set_option maxRecDepth 20000
def mpS (f : Cd → Cd) (C : List Cd) (i : Nat) : List Cd := (C.take i).map f ++ C.drop i
theorem mpS_len (f : Cd → Cd) (C : List Cd) (i : Nat) (h : i ≤ C.length) : (mpS f C i).length = C.length := by
  unfold mpS
  rw [List.length_append, zaY, zbb, List.length_drop]; omega
theorem mpS_at (f : Cd → Cd) (C : List Cd) (i : Nat) (h : i < C.length) : gD (mpS f C i) i = gD C i := by
  have e : ((C.take i).map f).length = i := by rw [zaY, zbb]; omega
  have key : (mpS f C i)[i]? = some (gD C i) := by
    unfold mpS
    rw [drop_getD C i zcd h, List.getElem?_append_right (by omega), e, Nat.sub_self]; rfl
  show (mpS f C i)[i]?.getD zcd = gD C i
  rw [key]; rfl
theorem mpS_succ (f : Cd → Cd) (C : List Cd) (i : Nat) (h : i < C.length) : (mpS f C i).set i (f (gD C i)) = mpS f C (i + 1) := by
  have e : ((C.take i).map f).length = i := by rw [zaY, zbb]; omega
  unfold mpS
  rw [drop_getD C i zcd h, take_getD C i zcd h, List.map_append, List.set_append_right _ _ (by omega), e, Nat.sub_self, zay, List.append_assoc]
  rfl
theorem mpS_same (f : Cd → Cd) (C : List Cd) (i : Nat) (h : i < C.length) (hf : f (gD C i) = gD C i) : mpS f C i = mpS f C (i + 1) := by
  unfold mpS
  rw [drop_getD C i zcd h, take_getD C i zcd h, List.map_append, List.append_assoc]
  show _ = _ ++ ([f (gD C i)] ++ _)
  rw [hf]; rfl
theorem mpS_all (f : Cd → Cd) (C : List Cd) (i : Nat) (h : C.length ≤ i) : mpS f C i = C.map f := by
  unfold mpS
  rw [zaW h, List.drop_of_length_le h, zap]
theorem mpS_zero (f : Cd → Cd) (C : List Cd) : mpS f C 0 = C := rfl
theorem vaF_map (l : List Nd) (f : Cd → Cd) : ∀ (C : List Cd) (last : Int), (∀ x ∈ C, (f x).p = x.p ∧ (f x).g = x.g ∧ cdk (f x) = true) → vaF l C last = true → vaF l (C.map f) last = true
  | [], _, _, _ => rfl
  | x :: r, last, hf, h => by
    obtain ⟨h1, h2, h3⟩ := hf x zaU
    rw [vaF, zaq, zaq, zaq] at h
    rw [zae, vaF, h1, h2, h3, h.1, h.2.1, vaF_map l f r x.p (fun y hy => hf y (zaV _ hy)) h.2.2.2]
    rfl
theorem vaM_map {l : List Nd} {n : Int} {C : List Cd} (h : vaM l n C = true) (f : Cd → Cd) (hf : ∀ x ∈ C, (f x).p = x.p ∧ (f x).g = x.g ∧ cdk (f x) = true) : vaM l n (C.map f) = true := by
  unfold vaM at h ⊢
  rw [zaq, zaq] at h
  rw [zaY, h.1, h.2.1, vaF_map l f C 0 hf h.2.2]; rfl
theorem scr_k (x : Cd) : scr x 1000 = x.n + x.a := by
  rw [scr_eq]; omega
theorem anc_root {l : List Nd} {n : Int} (h : VT l n) : ∀ i, i < l.length → (1 : Int) ∈ ancM l n (gN l i).i := fun i => by
  induction i using Nat.strongRecOn with
  | _ i ih =>
    intro hi
    rw [anc_up h hi]
    by_cases h0 : i = 0
    · subst h0
      rw [h.root.1, h.up0]; exact List.mem_singleton.2 rfl
    · obtain ⟨j, hj, hp⟩ := (h.ch hi h0).par
      rw [h.up hi h0, ← hp]
      have := ih j hj (by omega)
      rw [anc_up h (by omega)] at this
      exact zaV _ this
def upF (M : Cd) (u w : Int) (x : Cd) : Cd := if x.p = M.p then ⟨M.p, M.g, M.n + u, min 1000 (M.a + w)⟩ else x
def zrF (x : Cd) : Cd := ⟨x.p, x.g, x.n, 0⟩
theorem up_ok {l : List Nd} {n : Int} {C : List Cd} (hv : vaM l n C = true) {M : Cd} (hP : ViP l n C 1 1000 M) {u w : Int} (hu : 0 ≤ u ∧ u < 1000) (hw : 0 ≤ w ∧ w < 500) (hn : M.n ≤ 700) : vaM l n (C.map (upF M u w)) = true := by
  obtain ⟨_, _, hall⟩ := vaM_all hv
  refine vaM_map hv _ (fun x hx => ?_)
  unfold upF
  by_cases c : x.p = M.p
  · have e : x = M := asc_inj (vaM_asc hv) hx hP.mem c
    rw [if_pos c, e]
    have := cdk_iff.1 (hall M hP.mem).1
    exact ⟨rfl, rfl, cdk_iff.2 ⟨⟨by show 0 ≤ M.n + u; omega, by show M.n + u ≤ _; omega⟩, by show _ ≤ min _ _; omega, by show min _ _ ≤ _; omega⟩⟩
  · rw [if_neg c]
    exact ⟨rfl, rfl, (hall x hx).1⟩
theorem up_mem {l : List Nd} {n : Int} {C : List Cd} {M : Cd} (hP : ViP l n C 1 1000 M) {u w : Int} : (⟨M.p, M.g, M.n + u, min 1000 (M.a + w)⟩ : Cd) ∈ C.map (upF M u w) := by
  refine List.mem_map.2 ⟨M, hP.mem, ?_⟩
  unfold upF
  rw [if_pos rfl]
theorem up_vic {l : List Nd} {n : Int} {C : List Cd} (hv : vaM l n C = true) {M : Cd} (hP : ViP l n C 1 1000 M) {u w : Int} (hu : 0 ≤ u ∧ u < 1000) (hw : 0 ≤ w ∧ w < 500) (hn : M.n ≤ 700) : viM l n (C.map (upF M u w)) 1 1000 = (⟨M.p, M.g, M.n + u, min 1000 (M.a + w)⟩, 0) := by
  have hv1 := up_ok hv hP hu hw hn
  obtain ⟨hV, _, hall⟩ := vaM_all hv
  have hm := up_mem (u := u) (w := w) hP
  have hMa := (cdk_iff.1 (hall M hP.mem).1).2
  have hvc := vi_cases hv1 (s := 0) (by have := hV.ne; omega) (t := 1000) (by decide)
  rw [hV.root.1] at hvc
  have hsp : min 1000 (M.a + w) ≠ -1000 := by have := hP.sp; omega
  rcases hvc with ⟨_, h2⟩ | ⟨M2, h1, h2⟩
  · have := h2 _ hm hsp
    exact absurd hP.anc this
  · rw [h1]
    congr 1
    obtain ⟨x, hx, e⟩ := List.mem_map.1 h2.mem
    unfold upF at e
    by_cases c : x.p = M.p
    · rw [if_pos c] at e; exact e.symm
    · rw [if_neg c] at e
      subst e
      have a1 := hP.best x hx h2.sp h2.anc
      have a2 := h2.best _ hm hsp hP.anc
      rw [scr_k, scr_k] at a1 a2
      simp only at a2
      have b1 := a1.2 (by omega)
      have b2 := a2.2 (by omega)
      omega
theorem zr_ok {l : List Nd} {n : Int} {C : List Cd} (hv : vaM l n C = true) : vaM l n (C.map zrF) = true := by
  obtain ⟨_, _, hall⟩ := vaM_all hv
  refine vaM_map hv _ (fun x hx => ⟨rfl, rfl, cdk_iff.2 ⟨(cdk_iff.1 (hall x hx).1).1, by show (-1000 : Int) ≤ 0; decide, by show (0 : Int) ≤ 1000; decide⟩⟩)
theorem frM_none (p : Int) : ∀ (C : List Cd) (s : Int), (∀ x ∈ C, x.p ≠ p) → C.foldl (fun s x => if x.p ∈ [p] then s + x.n else s) s = s
  | [], _, _ => rfl
  | x :: r, s, h => by
    rw [List.foldl_cons, if_neg (fun e => h x zaU (List.mem_singleton.1 e))]
    exact frM_none p r s (fun y hy => h y (zaV _ hy))
theorem frM_oneF {X : Cd} : ∀ (C : List Cd) (s : Int), C.Pairwise (fun x y => x.p < y.p) → X ∈ C → C.foldl (fun s x => if x.p ∈ [X.p] then s + x.n else s) s = s + X.n
  | [], _, _, h => by cases h
  | x :: r, s, hp, h => by
    have hp' := List.pairwise_cons.1 hp
    rw [List.foldl_cons]
    rcases List.mem_cons.1 h with rfl | h
    · rw [if_pos (List.mem_singleton.2 rfl)]
      exact frM_none X.p r _ (fun y hy => by have := hp'.1 y hy; omega)
    · have := hp'.1 X h
      rw [if_neg (fun e => by have := List.mem_singleton.1 e; omega)]
      exact frM_oneF r s hp'.2 h
theorem zr_vic {l : List Nd} {n : Int} {C : List Cd} (hv : vaM l n C = true) (h0 : C ≠ []) : ∃ X, viM l n (C.map zrF) 1 1000 = (X, 0) ∧ frM [X.p] (C.map zrF) = X.n ∧ ∀ y ∈ C.map zrF, y.n ≤ X.n := by
  have hv2 := zr_ok hv
  obtain ⟨hV, _, hall⟩ := vaM_all hv2
  have hvc := vi_cases hv2 (s := 0) (by have := hV.ne; omega) (t := 1000) (by decide)
  rw [hV.root.1] at hvc
  have ha : ∀ y ∈ C.map zrF, y.a = 0 := fun y hy => by
    obtain ⟨x, _, rfl⟩ := List.mem_map.1 hy; rfl
  have hg : ∀ y ∈ C.map zrF, (1 : Int) ∈ ancM l n y.g := fun y hy => by
    obtain ⟨s, hs, es⟩ := bsF_node hV (hall y hy).2.1
    rw [← es]; exact anc_root hV s hs
  rcases hvc with ⟨_, h2⟩ | ⟨X, h1, h2⟩
  · obtain ⟨c, r, rfl⟩ : ∃ c r, C = c :: r := by cases C with
      | nil => exact absurd rfl h0
      | cons c r => exact ⟨c, r, rfl⟩
    exact absurd (hg (zrF c) zaU) (h2 (zrF c) zaU (by show (0 : Int) ≠ -1000; decide))
  · refine ⟨X, h1, ?_, fun y hy => ?_⟩
    · have := frM_oneF (C.map zrF) 0 (vaM_asc hv2) h2.mem
      rw [Int.zero_add] at this
      exact this
    · have := (h2.best y hy (by rw [ha y hy]; decide) (hg y hy)).1
      rw [scr_k, scr_k, ha y hy, ha X h2.mem] at this
      omega
end Go.Proofs.Ytlajelbiniakpaa
-- NEWGO
-- PRUNE: cl_lendx
-- ISG: Cs_isG
-- FLAT: Cs_flat
namespace Go.Proofs.Ytlajelbiniakpaa
set_option linter.unusedVariables false
set_option linter.unusedSimpArgs false
open Go.Proofs.Ytlajelbiniakpaa.Sh
set_option maxRecDepth 20000
theorem if_minS (a b : Int) : (if b < a then b else a) = min a b := by split <;> omega
def lendQ : FuncId → List Nat := fun f => if f = 12 then [0] else if f = 10 then [0] else if f = 11 then [0] else if f = 15 then [0] else []
set_option maxHeartbeats 64000000 in
theorem stays_spec (D : List Int) (more : Int) (hr : ∀ x ∈ D, -9223372036854775808 ≤ x ∧ x ≤ 9223372036854775807) (hmr : -9223372036854775808 ≤ more ∧ more ≤ 9223372036854775807) : FnSpec Try.prog 6 [gi D none, i1 more] [] (b1 true) [] := by
  by_cases hlen : (D.length : Int) ≤ 600
  case neg =>
    refine fnspec_of mixed TT_ok TT_cl ⟨fun _ => false, lendQ, 0, fun _ => false, fun _ => false⟩ Try.func6 rfl (by kernel_rfl) rfl 134 rfl [.tmp 4] rfl ?_
    simp only [go_sem, zaa, zai, zaj, zak, zal, zaf, ↓reduceIte, reduceCtorEq, zab, zac, zam, zan, zao, decide_eq_false hlen, lendQ]
    repeat' (first
 | (apply cl_plain
    case hs => rfl
    case ha => (simp only [zae, zag, prepV, prepC, idx, hpL', lookR, zaa, if_true, if_false]; rfl)
    case h => (first | exact light_spec .. | exact ksane_spec ..))
 | ((first | refine s1_id ?_ | refine swp_id ?_ | refine sops_id ?_ | refine s2_id ?_); simp only [decide_eq_false hlen, lendQ, go_sem, zaa, zai, zaj, zak, zal, zaf, ↓reduceIte, reduceCtorEq, zab, zac, zam, zan, zao, zaR, zaS, zaB, zaP, renO, bk, back, outUpsFrom, Ints_ren])
 | exact fs_nil trivial rfl
 | fail)
  have hl : D.length ≤ 600 := by omega
  have t1 := tree_spec D hl hr 0 6 (by decide)
  have hti := mkT_ok D 0 6
  generalize mkT D 0 6 = T at *
  obtain ⟨⟨l, n⟩, j1⟩ := T
  simp only at t1 hti
  have hV := hti.v.vt
  have hle := hti.len
  have hnl := nd_len l
  have hct : CtR l := kctr hV
  have hnr := hti.nr
  have p1 := cands_spec D hl hr l n hV j1
  obtain ⟨hv, hC8, hCn⟩ := mkCd_ok D hV j1
  generalize mkCd D l j1 = q at *
  obtain ⟨C, j2⟩ := q
  simp only at p1 hv hC8 hCn
  have hcl := cd_len C
  have vs := victim_spec l n C none 1 1000 (by omega) (by omega) hnr hct
  have hvc := vi_cases hv (s := 0) (by have := hV.ne; omega) (t := 1000) (by decide)
  rw [hV.root.1] at hvc
  rcases hvc with ⟨h1, _⟩ | ⟨M, h1, hP⟩
  · rw [h1] at vs
    simp only at vs
    refine fnspec_of mixed TT_ok TT_cl ⟨fun _ => false, lendQ, 0, fun _ => false, fun _ => false⟩ Try.func6 rfl (by kernel_rfl) rfl 134 rfl [.tmp 4] rfl ?_
    simp only [go_sem, zaa, zai, zaj, zak, zal, zaf, ↓reduceIte, reduceCtorEq, zab, zac, zam, zan, zao, decide_eq_true hlen, lendQ]
    repeat' (first
 | (apply cg_tp
    case hl => rfl
    case ha => (simp only [zae, zag, prepV, prepC, idx, hpL', lookR, zaa, if_true, if_false]; rfl)
    case hs => rfl
    case h => (first | exact light_spec .. | exact roll_spec .. | exact t1 .. | exact p1 .. | exact vs .. | exact ksane_spec ..))
 | (apply cl_plain
    case hs => rfl
    case ha => (simp only [zae, zag, prepV, prepC, idx, hpL', lookR, zaa, if_true, if_false]; rfl)
    case h => (first | exact light_spec .. | exact roll_spec .. | exact t1 .. | exact p1 .. | exact vs .. | exact ksane_spec ..))
 | (apply cl_lend
    case hr => (simp only [zae, zag, hpL', lookR, zaa, if_true, if_false]; first | exact map1 _ | exact map2 _ _ | exact map3 _ _ _)
    case ha => (simp only [zae, zag, prepV, prepC, idx, hpL', lookR, zaa, if_true, if_false]; rfl)
    case hs => rfl
    case hn => decide
    case h => (first | exact light_spec .. | exact roll_spec .. | exact t1 .. | exact p1 .. | exact vs .. | exact ksane_spec ..)
    case hf => (simp only [zad, zah, false_implies, implies_true, and_true, true_and, flat_cons, flat_nil, flat_ints, flat_bools, flat_app, Cs_flat, zaQ, and_self, eq_self_iff_true, zap])
    case hl => (simp only [zat, zau]; decide))
 | ((first | refine s1_id ?_ | refine swp_id ?_ | refine sops_id ?_ | refine s2_id ?_); simp only [decide_eq_true hlen, lendQ, dice, decide_true, zaC, zaF, zap, zaD, zaE, zay, zaA, zax, zaI, zaM, zat, zau, go_sem, zaa, zai, zaj, zak, zal, zaf, ↓reduceIte, reduceCtorEq, zab, zac, zam, zan, zao, zaR, zaS, zaB, zaP, renO, bk, back, outUpsFrom, Ints_ren])
 | exact fs_nil trivial rfl
 | fail)
  rw [h1] at vs
  simp only at vs
  clear h1
  have hro : FnSpec Try.prog 9 [.one (.gsl (Ints [more]) 0 1 (some 1))] [] dp [some (dice [more] 0)] := (roll_spec [more]).pre ⟨cw_cap _ _ _ _, trivial⟩
  have n2 := next_spec [more] 0 1000 (by show 1 ≤ 600; decide) (fun x hx => by rw [List.mem_singleton.1 hx]; exact hmr) (by decide)
  have r2 := nx_rng [more] 0 1000 (by decide)
  generalize nxV [more] 0 1000 = u at *
  generalize nxA [more] 0 1000 = j4 at *
  have n3 := next_spec D j2 500 hl hr (by decide)
  have r3 := nx_rng D j2 500 (by decide)
  generalize nxV D j2 500 = w at *
  generalize nxA D j2 500 = j5 at *
  have hMn := (hCn M hP.mem).1
  have hv1 := up_ok hv hP r2 r3 hMn
  have e1 := up_vic hv hP r2 r3 hMn
  obtain ⟨X, x1, x2, x3⟩ := zr_vic hv1 (fun e => by have := up_mem (u := u) (w := w) hP; rw [e] at this; cases this)
  have hv2 := zr_ok hv1
  obtain ⟨_, _, hall⟩ := vaM_all hv
  obtain ⟨_, _, hall2⟩ := vaM_all hv2
  have hMb := cdk_iff.1 (hall M hP.mem).1
  have hasc := vaM_asc hv
  have hF1 : upF M u w M = ⟨M.p, M.g, M.n + u, min 1000 (M.a + w)⟩ := by unfold upF; rw [if_pos rfl]
  have hF2 : ∀ x : Cd, x.p ≠ M.p → upF M u w x = x := fun x hx => by unfold upF; rw [if_neg hx]
  have hMm := hP.mem
  have hinj : ∀ x ∈ C, x.p = M.p → x = M := fun x hx e => asc_inj hasc hx hMm e
  clear hP
  have hl1 : (C.map (upF M u w)).length = C.length := zaY _
  have hl2 : ((C.map (upF M u w)).map zrF).length = C.length := by rw [zaY]; exact hl1
  have w1 : FnSpec Try.prog 18 [trV l none n, .one (.gsl (Cs (C.map (upF M u w))) 0 C.length none), i1 1, i1 1000] [] (.tup [i1 M.p, i1 0]) [] := by
    have := victim_spec l n (C.map (upF M u w)) none 1 1000 (by omega) (by omega) hnr hct
    rw [e1] at this
    rw [← hl1]
    exact this
  have w2 : FnSpec Try.prog 18 [trV l none n, .one (.gsl (Cs ((C.map (upF M u w)).map zrF)) 0 C.length none), i1 1, i1 1000] [] (.tup [i1 X.p, i1 0]) [] := by
    have := victim_spec l n ((C.map (upF M u w)).map zrF) none 1 1000 (by omega) (by omega) hnr hct
    rw [x1] at this
    rw [← hl2]
    exact this
  have fr : FnSpec Try.prog 17 [.one (.gsl (Cs ((C.map (upF M u w)).map zrF)) 0 C.length none), .one (.gsl (Ints [X.p]) 0 1 (some 1))] [] (i1 X.n) [] := by
    have := freed_spec [X.p] (some 1) ((C.map (upF M u w)).map zrF) none (by show 1 ≤ _; omega) (by omega) (fun x hx => (cdk_iff.1 (hall2 x hx).1).1)
    rw [x2] at this
    rw [← hl2]
    exact this
  clear e1 x1 x2 hv1 hv2 hall hall2
  have hm0 := mpS_all (upF M u w) C
  have hz0 := mpS_all zrF (C.map (upF M u w))
  generalize upF M u w = F at *
  generalize hB1 : C.map F = B1 at *
  generalize B1.map zrF = B2 at *
  obtain ⟨xp, xg, xn, xa⟩ := X
  simp only at fr w2 x3
  have htk : List.take (C.length * 4) (Cs C) = Cs C := zaW (by rw [hcl]; exact Nat.le_refl _)
  obtain ⟨mp, mg, mn, ma⟩ := M
  simp only at vs w1 hF1 hF2 hMb hinj hMn
  refine fnspec_of mixed TT_ok TT_cl ⟨fun _ => false, lendQ, 0, fun _ => false, fun _ => false⟩ Try.func6 rfl (by kernel_rfl) rfl 134 rfl [.tmp 4] rfl ?_
  simp only [go_sem, zaa, zai, zaj, zak, zal, zaf, ↓reduceIte, reduceCtorEq, zab, zac, zam, zan, zao, decide_eq_true hlen, lendQ]
  repeat' (first
 | with_reducible refine zaw ?_ ?_
 | (apply cl_plain
    case hs => rfl
    case ha => (simp only [zae, zag, prepV, prepC, idx, hpL', lookR, zaa, if_true, if_false]; rfl)
    case h => (first | exact light_spec .. | exact roll_spec .. | exact t1 .. | exact p1 .. | exact vs ..))
 | (apply cl_lend
    case hr => (simp only [zae, zag, hpL', lookR, zaa, if_true, if_false]; first | exact map1 _ | exact map2 _ _ | exact map3 _ _ _)
    case ha => (simp only [zae, zag, prepV, prepC, idx, hpL', lookR, zaa, if_true, if_false]; rfl)
    case hs => rfl
    case hn => decide
    case h => (first | exact light_spec .. | exact roll_spec .. | exact t1 .. | exact p1 .. | exact vs ..)
    case hf => (simp only [zad, zah, false_implies, implies_true, and_true, true_and, flat_cons, flat_nil, flat_ints, flat_bools, flat_app, Cs_flat, zaQ, and_self, eq_self_iff_true, zap])
    case hl => (simp only [zat, zau]; decide))
 | ((first | refine s1_id ?_ | refine swp_id ?_ | refine sops_id ?_ | refine s2_id ?_); simp only [decide_eq_true hlen, lendQ, dice, htk, decide_true, zaC, zaF, zap, zaD, zaE, zay, zaA, zax, zaI, zaM, zat, zau, go_sem, zaa, zai, zaj, zak, zal, zaf, ↓reduceIte, reduceCtorEq, zab, zac, zam, zan, zao, zaR, zaS, zaB, zaP, renO, bk, back, outUpsFrom, Ints_ren])
 | (intros; omega)
 | (intros; (try simp only [zaq, zaH, zaz, zav, zas, zar, decide_eq_true_eq, decide_eq_false_iff_not] at *); omega))
  refine w_loop (ι := Nat × Nat) (fun s => ⟨[(1, i1 more), (5, .one (.optr 0 0)), (6, .one (.optr 1 0)), (8, i1 mp), (10, .one (.osl 2 0 C.length none)), (11, i1 s.1)], [(0, some (dice D s.2)), (1, some ⟨[.gsl (Cs l) 0 l.length none, int n], 2⟩), (2, some ⟨Cs (mpS F C s.1), 4⟩)], 3⟩) (fun s => s.1 ≤ C.length ∧ (⟨mp, mg, mn, ma⟩ ∈ C.drop s.1 → s.2 = j2)) (fun s => C.length - s.1) (0, j2) ?_ ⟨zaX _, fun _ => rfl⟩ ?_
  · (refine imp_ren _ _ _ [(0, 5, dice D j2), (1, 9, ⟨[.gsl (Cs l) 0 l.length none, int n], 2⟩), (2, 26, ⟨Cs C, 4⟩)] (by simp) (by simp) (by simp) (zaL rfl) ?_ rfl (by simp only [zad, zah, false_implies, implies_true, and_true, zaT, lookR, zaa, if_true, if_false, ↓reduceIte, dice, Cs_flat] <;> (repeat' apply zaw) <;> (first | rfl | trivial)) (by simp only [zad, zah, false_implies, implies_true, and_true, true_and, flat_cons, flat_nil, flat_ints, flat_bools, flat_app, zaQ, and_self, eq_self_iff_true, zap, dice, Cs_flat]); simp only [zae, zag, zad, zah, false_implies, implies_true, and_true, lk, slot, zaR, zaB, toN, zaa, if_true, if_false, ↓reduceIte, reduceCtorEq])
    all_goals ((repeat' apply zaw) <;> (first | rfl | trivial | (simp only [mpS_zero]; done) | (simp only [mpS_zero]; rfl) | (simp only [mpS_zero]; trivial)))
  clear t1 p1 vs
  rintro ⟨i, j⟩ ⟨hi, hj⟩
  simp only at hi hj ⊢
  rcases zaZ i C.length with hlt | hge
  case inl =>
    have c : (i : Int) < (C.length : Int) := by omega
    have hbl := mpS_len F C i hi
    have hcB := cd_len (mpS F C i)
    rw [hbl] at hcB
    have hat := mpS_at F C i hlt
    have hsu := mpS_succ F C i hlt
    have hsm := mpS_same F C i hlt
    have hmem := getD_mem C i zcd hlt
    rw [drop_getD C i zcd hlt] at hj
    have hdr : gD C i = ⟨mp, mg, mn, ma⟩ → ¬ (⟨mp, mg, mn, ma⟩ : Cd) ∈ C.drop (i + 1) := fun e h => by
      have hp := hasc.sublist (List.drop_sublist i C)
      rw [drop_getD C i zcd hlt] at hp
      have := (List.pairwise_cons.1 hp).1 _ h
      have e' : C.getD i zcd = ⟨mp, mg, mn, ma⟩ := e
      rw [e'] at this
      simp only at this; omega
    have hinj' := hinj _ hmem
    generalize mpS F C i = B at *
    have q0 := cd_f B i 0 (.sc (.int .i64 0)) (by omega) (by decide)
    rw [Nat.add_zero, hat] at q0
    by_cases hp : (gD C i).p = mp
    · have hx : gD C i = ⟨mp, mg, mn, ma⟩ := hinj' hp
      have hj2 : j = j2 := hj (by rw [show C.getD i zcd = _ from hx]; exact zaU)
      subst hj2
      have hnd := hdr hx
      rw [hx] at q0 hsu hat
      rw [hF1] at hsu
      have q0 : (Cs B).getD (i * 4) (.sc (.int .i64 0)) = int mp := q0
      have q2 : (Cs B).getD (i * 4 + 2) (.sc (.int .i64 0)) = int mn := by
        have := cd_f B i 2 (.sc (.int .i64 0)) (by omega) (by decide)
        rw [hat] at this; exact this
      have s1 : (Cs B).set (i * 4 + 2) (int (mn + u)) = Cs (B.set i ⟨mp, mg, mn + u, ma⟩) := Cs_setf B i 2 ⟨mp, mg, mn + u, ma⟩ _ (by omega) (by decide) (by
        show _ = (cdc (gD B i)).set 2 _
        rw [hat]; rfl)
      have hat2 : gD (B.set i ⟨mp, mg, mn + u, ma⟩) i = ⟨mp, mg, mn + u, ma⟩ := by
        show (B.set i _).getD i zcd = _
        rw [List.getD_eq_getElem?_getD, List.getElem?_set_self (by omega)]; rfl
      have hss : (B.set i ⟨mp, mg, mn + u, ma⟩).set i ⟨mp, mg, mn + u, min 1000 (ma + w)⟩ = mpS F C (i + 1) := by rw [List.set_set]; exact hsu
      have hl3 : (B.set i ⟨mp, mg, mn + u, ma⟩).length = C.length := by rw [List.length_set]; exact hbl
      generalize B.set i ⟨mp, mg, mn + u, ma⟩ = B' at *
      have q3 : (Cs B').getD (i * 4 + 3) (.sc (.int .i64 0)) = int ma := by
        have := cd_f B' i 3 (.sc (.int .i64 0)) (by omega) (by decide)
        rw [hat2] at this; exact this
      have hcB' := cd_len B'
      rw [hl3] at hcB'
      have s2 : (Cs B').set (i * 4 + 3) (int (min 1000 (ma + w))) = Cs (mpS F C (i + 1)) := by
        rw [← hss]
        exact Cs_setf B' i 3 ⟨mp, mg, mn + u, min 1000 (ma + w)⟩ _ (by omega) (by decide) (by
          show _ = (cdc (gD B' i)).set 3 _
          rw [hat2]; rfl)
      simp only [go_sem, zaa, zai, zaj, zak, zal, zaf, ↓reduceIte, reduceCtorEq, zab, zac, zam, zan, zao, decide_eq_true c, q0, q2, q3, s1, s2, if_minS, lendQ]
      repeat' (first
 | with_reducible refine zaw ?_ ?_
 | (unfold OKC; kernel_rfl)
 | (unfold EDG; kernel_rfl)
 | (apply cl_lend
    case hr => (simp only [zae, zag, hpL', lookR, zaa, if_true, if_false]; first | exact map1 _ | exact map2 _ _ | exact map3 _ _ _)
    case ha => (simp only [zae, zag, prepV, prepC, idx, hpL', lookR, zaa, if_true, if_false]; rfl)
    case hs => rfl
    case hn => decide
    case h => (first | exact hro .. | exact n2 .. | exact n3 ..)
    case hf => (simp only [zad, zah, false_implies, implies_true, and_true, true_and, flat_cons, flat_nil, flat_ints, flat_bools, flat_app, Cs_flat, zaQ, and_self, eq_self_iff_true, zap])
    case hl => (simp only [zat, zau]; decide))
 | (apply cl_use
    case hr => (simp only [zae, zag, hpL', lookR, zaa, if_true, if_false]; first | exact map0 | exact map1 _ | exact map2 _ _ | exact map3 _ _ _)
    case ha => (simp only [zae, zag, prepV, prepC, idx, hpL', lookR, zaa, if_true, if_false]; rfl)
    case hs => (simp only [snaps, SV.refs, zaQ, idx, List.flatMap_cons, List.flatMap_nil, zaE, zaD, zap, List.filter_cons, List.filter_nil, zaa, if_true, if_false, Option.isNone_none, Option.isNone_some, Bool.false_eq_true, reduceCtorEq, ↓reduceIte]; rfl)
    case hn => decide
    case h => (first | exact hro .. | exact n2 .. | exact n3 ..)
    case hf => (simp only [zad, zah, false_implies, implies_true, and_true, true_and, flat_cons, flat_nil, flat_ints, flat_bools, flat_app, Cs_flat, zaQ, and_self, eq_self_iff_true, zap])
    case hg => ((simp [hpL', lookR, Cell.isG]) <;> (repeat' apply zaw) <;> (first | exact Ints_isG _ | exact Cs_isG _))
    case hl => (simp only [zat, zau]; decide))
 | ((first | refine s1_id ?_ | refine swp_id ?_ | refine sops_id ?_ | refine s2_id ?_); simp only [decide_eq_true c, q0, q2, q3, s1, s2, if_minS, decide_true, lendQ, dice, zaC, zaF, zap, zaD, zaE, zay, zaA, zax, zaI, zaM, zat, zau, go_sem, zaa, zai, zaj, zak, zal, zaf, ↓reduceIte, reduceCtorEq, zab, zac, zam, zan, zao, zaR, zaS, zaB, zaP, renO, bk, back, outUpsFrom, Ints_ren])
 | (intros; omega)
 | (intros; (try simp only [zaq, zaH, zaz, zav, zas, zar, decide_eq_true_eq, decide_eq_false_iff_not] at *); omega))
      refine le_mk (i + 1, j5) ?_ ⟨hlt, fun h => absurd h hnd⟩ (by show C.length - (i + 1) < C.length - i; omega)
      (refine imp_ren _ _ _ [(0, 0, dice D j5), (1, 1, ⟨[.gsl (Cs l) 0 l.length none, int n], 2⟩), (2, 2, ⟨Cs (mpS F C (i + 1)), 4⟩)] (by simp) (by simp) (by simp) (zaL rfl) ?_ rfl (by simp only [zad, zah, false_implies, implies_true, and_true, zaT, lookR, zaa, if_true, if_false, ↓reduceIte, dice, Cs_flat] <;> (repeat' apply zaw) <;> (first | rfl | trivial)) (by simp only [zad, zah, false_implies, implies_true, and_true, true_and, flat_cons, flat_nil, flat_ints, flat_bools, flat_app, zaQ, and_self, eq_self_iff_true, zap, dice, Cs_flat]); simp only [zae, zag, zad, zah, false_implies, implies_true, and_true, lk, slot, zaR, zaB, toN, zaa, if_true, if_false, ↓reduceIte, reduceCtorEq])
      all_goals ((repeat' apply zaw) <;> (first | rfl | trivial | (simp only [zaG]; done) | (simp only [zaG]; rfl) | (simp only [zaG]; trivial)))
    · have hsm := hsm (hF2 _ hp)
      have q0 : (Cs B).getD (i * 4) (.sc (.int .i64 0)) = int (gD C i).p := q0
      simp only [go_sem, zaa, zai, zaj, zak, zal, zaf, ↓reduceIte, reduceCtorEq, zab, zac, zam, zan, zao, decide_eq_true c, q0, decide_eq_false hp, lendQ]
      repeat' (first
 | with_reducible refine zaw ?_ ?_
 | (intros; omega)
 | (intros; (try simp only [zaq, zaH, zaz, zav, zas, zar, decide_eq_true_eq, decide_eq_false_iff_not] at *); omega))
      refine le_mk (i + 1, j) ?_ ⟨hlt, fun h => hj (zaV _ h)⟩ (by show C.length - (i + 1) < C.length - i; omega)
      simp only [← hsm]
      (refine imp_ren _ _ _ [(0, 0, dice D j), (1, 1, ⟨[.gsl (Cs l) 0 l.length none, int n], 2⟩), (2, 2, ⟨Cs B, 4⟩)] (by simp) (by simp) (by simp) (zaL rfl) ?_ rfl (by simp only [zad, zah, false_implies, implies_true, and_true, zaT, lookR, zaa, if_true, if_false, ↓reduceIte, dice, Cs_flat] <;> (repeat' apply zaw) <;> (first | rfl | trivial)) (by simp only [zad, zah, false_implies, implies_true, and_true, true_and, flat_cons, flat_nil, flat_ints, flat_bools, flat_app, zaQ, and_self, eq_self_iff_true, zap, dice, Cs_flat]); simp only [zae, zag, zad, zah, false_implies, implies_true, and_true, lk, slot, zaR, zaB, toN, zaa, if_true, if_false, ↓reduceIte, reduceCtorEq])
      all_goals ((repeat' apply zaw) <;> (first | rfl | trivial | (simp only [zaG]; done) | (simp only [zaG]; rfl) | (simp only [zaG]; trivial)))
  have c : ¬ (i : Int) < (C.length : Int) := by omega
  rw [hm0 i hge]
  clear hm0 hj
  simp only [go_sem, zaa, zai, zaj, zak, zal, zaf, ↓reduceIte, reduceCtorEq, zab, zac, zam, zan, zao, decide_eq_false c, lendQ]
  repeat' (first
 | (apply cl_show
    case ha => (simp only [zae, zag, prepV, prepC, idx, hpL', lookR, zaa, if_true, if_false]; rfl)
    case hs => ((simp [snaps, SV.refs, zaQ, idx, hpL', lookR]) <;> (repeat' apply zaw) <;> (first | exact Ints_isG _ | exact Cs_isG _))
    case h => (first | exact w1 ..)
    case hg => ((simp [SV.noG, SV.noGL, Cell.noG]) <;> (repeat' apply zaw) <;> exact Ints_noG _))
 | ((first | refine s1_id ?_ | refine swp_id ?_ | refine sops_id ?_ | refine s2_id ?_); simp only [decide_eq_false c, lendQ, dice, zaC, zaF, zap, zaD, zaE, zay, zaA, zax, zaI, zaM, zat, zau, go_sem, zaa, zai, zaj, zak, zal, zaf, ↓reduceIte, reduceCtorEq, zab, zac, zam, zan, zao, zaR, zaS, zaB, zaP, renO, bk, back, outUpsFrom, Ints_ren])
 | (intros; (try simp only [zaq, zaH, zaz, zav, zas, zar, decide_eq_true_eq, decide_eq_false_iff_not] at *); omega))
  refine w_loop (ι := Nat) (fun i => ⟨[(6, .one (.optr 0 0)), (8, i1 mp), (10, .one (.osl 1 0 C.length none)), (12, i1 mp), (13, i1 0), (14, i1 i)], [(0, some ⟨[.gsl (Cs l) 0 l.length none, int n], 2⟩), (1, some ⟨Cs (mpS zrF B1 i), 4⟩)], 2⟩) (fun i => i ≤ C.length) (fun i => C.length - i) 0 ?_ (zaX _) ?_
  · (refine imp_ren _ _ _ [(0, 1, ⟨[.gsl (Cs l) 0 l.length none, int n], 2⟩), (1, 2, ⟨Cs B1, 4⟩)] (by simp) (by simp) (by simp) (zaL rfl) ?_ rfl (by simp only [zad, zah, false_implies, implies_true, and_true, zaT, lookR, zaa, if_true, if_false, ↓reduceIte, dice, Cs_flat] <;> (repeat' apply zaw) <;> (first | rfl | trivial)) (by simp only [zad, zah, false_implies, implies_true, and_true, true_and, flat_cons, flat_nil, flat_ints, flat_bools, flat_app, zaQ, and_self, eq_self_iff_true, zap, dice, Cs_flat]); simp only [zae, zag, zad, zah, false_implies, implies_true, and_true, lk, slot, zaR, zaB, toN, zaa, if_true, if_false, ↓reduceIte, reduceCtorEq])
    all_goals ((repeat' apply zaw) <;> (first | rfl | trivial | (simp only [mpS_zero]; done) | (simp only [mpS_zero]; rfl) | (simp only [mpS_zero]; trivial)))
  clear hi hge c i w1
  intro i hi
  simp only at hi ⊢
  rcases zaZ i C.length with hlt | hge
  case inl =>
    have c : (i : Int) < (C.length : Int) := by omega
    have hbl := mpS_len zrF B1 i (by omega)
    rw [hl1] at hbl
    have hcB := cd_len (mpS zrF B1 i)
    rw [hbl] at hcB
    have hat := mpS_at zrF B1 i (by omega)
    have hsu := mpS_succ zrF B1 i (by omega)
    generalize mpS zrF B1 i = B at *
    have s1 : (Cs B).set (i * 4 + 3) (int 0) = Cs (mpS zrF B1 (i + 1)) := by
      rw [← hsu]
      exact Cs_setf B i 3 _ _ (by omega) (by decide) (by
        show _ = (cdc (gD B i)).set 3 _
        rw [hat]; rfl)
    simp only [go_sem, zaa, zai, zaj, zak, zal, zaf, ↓reduceIte, reduceCtorEq, zab, zac, zam, zan, zao, decide_eq_true c, s1, lendQ]
    repeat' (first
 | with_reducible refine zaw ?_ ?_
 | (intros; omega)
 | (intros; (try simp only [zaq, zaH, zaz, zav, zas, zar, decide_eq_true_eq, decide_eq_false_iff_not] at *); omega))
    refine le_mk (i + 1) ?_ hlt (by show C.length - (i + 1) < C.length - i; omega)
    (refine imp_ren _ _ _ [(0, 0, ⟨[.gsl (Cs l) 0 l.length none, int n], 2⟩), (1, 1, ⟨Cs (mpS zrF B1 (i + 1)), 4⟩)] (by simp) (by simp) (by simp) (zaL rfl) ?_ rfl (by simp only [zad, zah, false_implies, implies_true, and_true, zaT, lookR, zaa, if_true, if_false, ↓reduceIte, Cs_flat] <;> (repeat' apply zaw) <;> (first | rfl | trivial)) (by simp only [zad, zah, false_implies, implies_true, and_true, true_and, flat_cons, flat_nil, flat_ints, flat_bools, flat_app, zaQ, and_self, eq_self_iff_true, zap, Cs_flat]); simp only [zae, zag, zad, zah, false_implies, implies_true, and_true, lk, slot, zaR, zaB, toN, zaa, if_true, if_false, ↓reduceIte, reduceCtorEq])
    all_goals ((repeat' apply zaw) <;> (first | rfl | trivial | (simp only [zaG]; done) | (simp only [zaG]; rfl) | (simp only [zaG]; trivial)))
  have c : ¬ (i : Int) < (C.length : Int) := by omega
  rw [hz0 i (by omega)]
  clear hz0
  simp only [go_sem, zaa, zai, zaj, zak, zal, zaf, ↓reduceIte, reduceCtorEq, zab, zac, zam, zan, zao, decide_eq_false c, lendQ]
  repeat' (first
 | (apply cl_show
    case ha => (simp only [zae, zag, prepV, prepC, idx, hpL', lookR, zaa, if_true, if_false]; rfl)
    case hs => ((simp [snaps, SV.refs, zaQ, idx, hpL', lookR]) <;> (repeat' apply zaw) <;> (first | exact Ints_isG _ | exact Cs_isG _))
    case h => (first | exact w2 .. | exact fr ..)
    case hg => ((simp [SV.noG, SV.noGL, Cell.noG]) <;> (repeat' apply zaw) <;> exact Ints_noG _))
 | ((first | refine s1_id ?_ | refine swp_id ?_ | refine sops_id ?_ | refine s2_id ?_); simp only [decide_eq_false c, lendQ, decide_true, beq_self_eq_true, Bool.not_true, zaC, zaF, zap, zaD, zaE, zay, zaA, zax, zaI, zaM, zat, zau, go_sem, zaa, zai, zaj, zak, zal, zaf, ↓reduceIte, reduceCtorEq, zab, zac, zam, zan, zao, zaR, zaS, zaB, zaP, renO, bk, back, outUpsFrom, Ints_ren])
 | (intros; (try simp only [zaq, zaH, zaz, zav, zas, zar, decide_eq_true_eq, decide_eq_false_iff_not] at *); omega))
  refine w_loop (ι := Nat) (fun i => ⟨[(10, .one (.osl 0 0 C.length none)), (17, i1 xn), (18, i1 i)], [(0, some ⟨Cs B2, 4⟩)], 1⟩) (fun i => i ≤ C.length) (fun i => C.length - i) 0 ?_ (zaX _) ?_
  · (refine imp_ren _ _ _ [(0, 1, ⟨Cs B2, 4⟩)] (by simp) (by simp) (by simp) (zaL rfl) ?_ rfl (by simp only [zad, zah, false_implies, implies_true, and_true, zaT, lookR, zaa, if_true, if_false, ↓reduceIte, Cs_flat] <;> (repeat' apply zaw) <;> (first | rfl | trivial)) (by simp only [zad, zah, false_implies, implies_true, and_true, true_and, flat_cons, flat_nil, flat_ints, flat_bools, flat_app, zaQ, and_self, eq_self_iff_true, zap, Cs_flat]); simp only [zae, zag, zad, zah, false_implies, implies_true, and_true, lk, slot, zaR, zaB, toN, zaa, if_true, if_false, ↓reduceIte, reduceCtorEq])
    all_goals ((repeat' apply zaw) <;> (first | rfl | trivial))
  clear hi hge c i w2 fr
  intro i hi
  simp only at hi ⊢
  rcases zaZ i C.length with hlt | hge
  case inr =>
    have c : ¬ (i : Int) < (C.length : Int) := by omega
    simp only [go_sem, zaa, zai, zaj, zak, zal, zaf, ↓reduceIte, reduceCtorEq, zab, zac, zam, zan, zao, decide_eq_false c, lendQ]
    repeat' (first
 | (apply cl_plain
    case hs => rfl
    case ha => (simp only [zae, zag, prepV, prepC, idx, hpL', lookR, zaa, if_true, if_false]; rfl)
    case h => (first | exact ksane_spec ..))
 | ((first | refine s1_id ?_ | refine swp_id ?_ | refine sops_id ?_ | refine s2_id ?_); simp only [decide_eq_false c, lendQ, zaC, zaF, zap, zaD, zaE, zay, zaA, zax, zaI, zaM, zat, zau, go_sem, zaa, zai, zaj, zak, zal, zaf, ↓reduceIte, reduceCtorEq, zab, zac, zam, zan, zao, zaR, zaS, zaB, zaP, renO, bk, back, outUpsFrom, Ints_ren])
 | exact fs_nil trivial rfl
 | fail)
  have c : (i : Int) < (C.length : Int) := by omega
  have hcB := cd_len B2
  rw [hl2] at hcB
  have q2 := cd_f B2 i 2 (.sc (.int .i64 0)) (by omega) (by decide)
  have hle := x3 _ (getD_mem B2 i zcd (by omega))
  have hle : (gD B2 i).n ≤ xn := hle
  have q2 : (Cs B2).getD (i * 4 + 2) (.sc (.int .i64 0)) = int (gD B2 i).n := q2
  generalize (gD B2 i).n = z at *
  have c2 : ¬ xn < z := by omega
  simp only [go_sem, zaa, zai, zaj, zak, zal, zaf, ↓reduceIte, reduceCtorEq, zab, zac, zam, zan, zao, decide_eq_true c, q2, decide_eq_false c2, lendQ]
  repeat' (first
 | with_reducible refine zaw ?_ ?_
 | (intros; omega)
 | (intros; (try simp only [zaq, zaH, zaz, zav, zas, zar, decide_eq_true_eq, decide_eq_false_iff_not] at *); omega))
  refine le_mk (i + 1) ?_ hlt (by show C.length - (i + 1) < C.length - i; omega)
  (refine imp_ren _ _ _ [(0, 0, ⟨Cs B2, 4⟩)] (by simp) (by simp) (by simp) (zaL rfl) ?_ rfl (by simp only [zad, zah, false_implies, implies_true, and_true, zaT, lookR, zaa, if_true, if_false, ↓reduceIte, Cs_flat] <;> (repeat' apply zaw) <;> (first | rfl | trivial)) (by simp only [zad, zah, false_implies, implies_true, and_true, true_and, flat_cons, flat_nil, flat_ints, flat_bools, flat_app, zaQ, and_self, eq_self_iff_true, zap, Cs_flat]); simp only [zae, zag, zad, zah, false_implies, implies_true, and_true, lk, slot, zaR, zaB, toN, zaa, if_true, if_false, ↓reduceIte, reduceCtorEq])
  all_goals ((repeat' apply zaw) <;> (first | rfl | trivial | (simp only [zaG]; done) | (simp only [zaG]; rfl) | (simp only [zaG]; trivial)))
theorem stays_main (g0 : List Cell) (s0 : GTy Try.prog 12 22 g0) (g1 : List Cell) (s1 : GTy Try.prog 12 3 g1) : FnSpec Try.prog 6 [svOf Try.prog 22 g0, svOf Try.prog 3 g1] [] (b1 true) [] := by
  obtain ⟨l, rfl, hl, hr⟩ := gty_ints (n := 10) Try.underlying22 Try.underlying3 s0
  obtain ⟨m1, rfl, w1⟩ := gty_int (n := 11) Try.underlying3 s1
  simp only [svOf, Try.underlying22, Try.underlying3, List.headD_cons]
  exact stays_spec l m1 hr (wf_i64 w1)
end Go.Proofs.Ytlajelbiniakpaa
