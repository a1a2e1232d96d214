/- Contracts of functions, told of values, on the way to MemberChanges (part 9). -/
import Derived.Test.YtnahpejlhfeleabGreatMemberChangesM3
import Derived.Test.YtnahpejlhfeleabGreatMemberChangesM8
namespace Go.Proofs.YtnahpejlhfeleabGreat
theorem yia {p : Prop} (h : p := by first | (refine fs_w ?h1 (svw_of ?h2); (case h1 => repeat' (first | exact trivial | exact rfl | exact zaF rfl | apply zaB)); (case h2 => repeat' (first | ((with_reducible refine (?_ : CW _ _)); first | exact cw_gnil | exact cw_rfl _ | exact cw_niln _ _ | exact cw_cap _ _ _ _) | exact trivial | (show _ ∧ SWL _ _; apply zaB) | (show _ ∧ CWL _ _; apply zaB) | show CW _ _))) | fail) : p := h
theorem yib {p : Prop} (h : p := by first | (intros; (try simp only [zaH, zaI, zaG, zaE, zaA, zaC, decide_eq_true_eq, decide_eq_false_iff_not] at *); omega) | fail) : p := h
theorem yic {p : Prop} (h : p := by first | (simp only [zal, zao, prepV, prepC, idx, hpL', lookR, zaa, if_true, if_false]; rfl) | fail) : p := h
theorem yid {p : Prop} (h : p := by first | (simp only [zat, zaD, false_implies, implies_true, and_true, true_and, flat_cons, flat_nil, flat_ints, flat_bools, flat_app, Cs_flat, zaS, and_self, eq_self_iff_true, zad]) | fail) : p := h
theorem yie {p : Prop} (h : p := by first | (simp only [zal, zao, hpL', lookR, zaa, if_true, if_false]; first | exact map1 _ | exact map2 _ _ | exact map3 _ _ _) | fail) : p := h
theorem yif {p : Prop} (h : p := by first | (first | exact cn1 .. | exact cn2 .. | exact cn4 .. | exact e1 .. | exact e2 .. | exact e4 .. | exact p1 .. | exact p2 .. | exact p4 .. | exact r1 .. | exact r2 .. | exact r4 ..) | fail) : p := h
theorem yig {p : Prop} (h : p := by first | (first | exact h1 .. | exact h2 .. | exact h3 .. | exact h6 .. | exact h7 ..) | fail) : p := h
theorem yih {p : Prop} (h : p := by first | (simp only [zag, zae]; decide) | fail) : p := h
theorem yii {p : Prop} (h : p := by first | (first | exact h1 .. | exact h2 .. | exact h3 ..) | fail) : p := h
end Go.Proofs.YtnahpejlhfeleabGreat
-- short names of the library's lemmas
open Nat renaming reduceEqDiff → zaa, reduceLeDiff → zah, reduceAdd → zaq, reduceSub → zar, reduceMul → zas, reduceLT → zav, le_of_ble_eq_true → zaF
open List renaming reduceReplicate → zab, append_nil → zad, length_nil → zae, take_succ_cons → zaf, length_cons → zag, set_cons_zero → zai, set_cons_succ → zaj, flatten_cons → zak, map_cons → zal, flatten_nil → zam, cons_append → zan, map_nil → zao, nil_append → zap, forall_mem_cons → zat, take_zero → zau, take_nil → zaz, not_mem_nil → zaD, getD_cons_zero → zaL, getD_cons_succ → zaM, length_drop → zaO, take_of_length_le → zaT, length_append → zaV
open Int renaming cast_ofNat_Int → zac, reduceEq → zaw, reduceLT → zax, reduceLE → zay, natCast_add → zaU
open Option renaming getD_some → zaQ, getD_none → zaR
open Bool renaming and_eq_false_iff → zaA, or_eq_false_iff → zaC, not_eq_false' → zaE, not_eq_true' → zaG, and_eq_true → zaH, or_eq_true → zaI
open And renaming intro → zaB
open Go.Proofs.YtnahpejlhfeleabGreat.Sh.Cell renaming ren → zaJ, refs → zaS
open Go.Proofs.YtnahpejlhfeleabGreat.Sh.SV renaming renL → zaN, ren → zaP
open Go.Proofs.YtnahpejlhfeleabGreat.Sh.Row renaming ren → zaK
open Go.Proofs.YtnahpejlhfeleabGreat.Sh.St renaming hpF → zaW
set_option linter.unusedSimpArgs false
set_option linter.unusedVariables false
namespace Go.Proofs.YtnahpejlhfeleabGreat
open Go.Proofs.YtnahpejlhfeleabGreat.Sh
set_option maxRecDepth 20000
theorem lay_cs (l m : List Nd) (k d : Nat) (hd : d = k * 6) : layAt (Cs l) d (Cs m) = Cs (l.take k ++ m ++ l.drop (k + m.length)) := by
 subst hd
 unfold layAt
 have e1 : (Cs l).take (k * 6) = Cs (l.take k) := Cs_take l k
 have e2 : (Cs l).drop (k * 6 + (Cs m).length) = Cs (l.drop (k + m.length)) := by
   rw [nd_len m, ← Nat.add_mul]; exact Cs_drop l (k + m.length)
 rw [e1, e2, Cs_app, Cs_app]
theorem nd_take (l : List Nd) (k : Nat) : (Cs l).take (k * 6) = Cs (l.take k) := Cs_take l k
theorem nd_drop (l : List Nd) (k : Nat) : (Cs l).drop (k * 6) = Cs (l.drop k) := Cs_drop l k
set_option maxHeartbeats 8000000 in
theorem ndel_spec (l : List Nd) (k : Nat) (hk : k < l.length) (hl : l.length ≤ 1000) : FnSpec Tryz.prog 111 [.one (.osl 0 0 l.length none), i1 k, i1 (k + 1)] [⟨Cs l, 6⟩] (.one (.gsl (Cs (l.take k ++ l.drop (k + 1))) 0 (l.length - 1) none)) [none] := by
 refine FnSpec.capk (fun c hc => ?_)
 obtain ⟨c, rfl⟩ : ∃ c', c = c' + 1 := ⟨c - 1, by omega⟩
 have hil := nd_len l
 have hkk : ¬ (k : Int) = (k : Int) + 1 := by omega
 have t0 : Int.toNat 0 = 0 := rfl
 have t1 : ((k : Int) + 1).toNat = k + 1 := by omega
 have t2 : k + (l.length - (k + 1)) = l.length - 1 := by omega
 have t3 : l.length - (l.length - 1) = 1 := by omega
 have hr : l.length - 1 ≤ c + 1 := by omega
 have hd1 : List.take ((l.length - (k + 1)) * 6) (Cs (l.drop (k + 1))) = Cs (l.drop (k + 1)) := zaT (by rw [nd_len, zaO]; exact Nat.le_refl _)
 have hd2 : List.take (l.length - (k + 1)) (l.drop (k + 1)) = l.drop (k + 1) := zaT (by rw [zaO]; exact Nat.le_refl _)
 have hdl : (Cs (l.drop (k + 1))).length = (l.length - (k + 1)) * 6 := by rw [nd_len, zaO]
 have hM : layAt (Cs l) (k * 6) (Cs (l.drop (k + 1))) = Cs (l.take k ++ l.drop (k + 1) ++ l.drop (l.length - 1)) := by
   have e : k + (l.drop (k + 1)).length = l.length - 1 := by rw [zaO]; omega
   rw [lay_cs l (l.drop (k + 1)) k _ rfl, e]
 have hL : (l.take k ++ l.drop (k + 1)).length = l.length - 1 := by rw [zaV, List.length_take, zaO]; omega
 have hML : (Cs (l.take k ++ l.drop (k + 1) ++ l.drop (l.length - 1))).length = l.length * 6 := by
   rw [nd_len, zaV, hL, zaO]; congr 1; omega
 have hN : layAt (Cs (l.take k ++ l.drop (k + 1) ++ l.drop (l.length - 1))) ((l.length - 1) * 6) (Cs [zn]) = Cs (l.take k ++ l.drop (k + 1) ++ [zn]) := by
   rw [lay_cs _ [zn] (l.length - 1) _ rfl]
   have e1 : (l.take k ++ l.drop (k + 1) ++ l.drop (l.length - 1)).take (l.length - 1) = l.take k ++ l.drop (k + 1) := by
     rw [List.take_append_of_le_length (by omega), zaT (by omega)]
   have e2 : (l.take k ++ l.drop (k + 1) ++ l.drop (l.length - 1)).drop (l.length - 1 + [zn].length) = [] := List.drop_of_length_le (by rw [zaV, hL, zaO]; simp only [zag, zae]; omega)
   rw [e1, e2, zad]
 have hN' : layAt (Cs (l.take k ++ l.drop (k + 1) ++ l.drop (l.length - 1))) ((l.length - 1) * 6) [Cell.sc (Value.int IntKind.i64 0), Cell.sc (Value.int IntKind.i64 0), Cell.sc (Value.string (bs [])), Cell.sc (Value.int IntKind.i64 0), Cell.sc (Value.int IntKind.i64 0), Cell.sc (Value.int IntKind.i64 0)] = Cs (l.take k ++ l.drop (k + 1) ++ [zn]) := hN
 have hT : (Cs (l.take k ++ l.drop (k + 1) ++ [zn])).take ((l.length - 1) * 6) = Cs (l.take k ++ l.drop (k + 1)) := by
   rw [nd_take, List.take_append_of_le_length (by omega), zaT (by omega)]
 refine fnspec_of mixed TT_ok TT_cl ⟨fun _ => false, fun _ => [], 1, fun _ => false, fun _ => false⟩ Tryz.func111 rfl (by kernel_rfl) rfl 33 rfl [.tmp 6] rfl ?_
 simp only [go_sem, zaa, zaq, zar, zas, zav, zah, ↓reduceIte, reduceCtorEq, zab, zac, zaw, zax, zay, hil, decide_eq_false hkk, t0, t1, t2, t3, hr, hd1, hd2, hdl, hM, hN', zak, zam, zad, Nat.zero_mul, Nat.sub_zero, nd_take, nd_drop]
 repeat' (first
 | with_reducible refine zaB ?_ ?_
 | (unfold OKC; kernel_rfl)
 | (unfold EDG; kernel_rfl)
 | (intros; omega)
 | exact yib | fail)
 all_goals try (intro row hrow; cases hrow; rfl)
 refine fs_res (res0 := .one (.gsl (Cs (l.take k ++ l.drop (k + 1) ++ [zn])) 0 (l.length - 1) (some (c + 1)))) (svw_of (by
   rw [← hT]
   exact cw_trans (cw_take _ _ _ _ _) (cw_cap _ _ _ _))) ?_
 refine fs_frz 0 ⟨Cs (l.take k ++ l.drop (k + 1) ++ [zn]), 6⟩ (by first | (simp only [zaW, lookR, zaa, if_true, if_false, ↓reduceIte, reduceCtorEq]; done) | rfl) (Cs_isG _) ?_
 simp only [frzTm, SV.frz, SV.frzL, Cell.frz, frzHp, frzO, Cs_frz, zal, zao, zaa, if_true, if_false, ↓reduceIte]
 (refine fs_mk [0] (by simp) (by decide) (by simp only [go_sem, resV, resS, zaP, zaN, zaJ, St.tmF, zaW, idx, renO, zaK, evS, slot, lookR, zaa, ↓reduceIte, reduceCtorEq, if_true, if_false, zaQ, zaR, zal, zao, sLoad, readAt, readNeed, Ints_ren, Ints_length, Ints_getD, and_true, true_and, zaL, zaM]; try decide) ?_ ?_ ?_ <;> (try simp only [go_sem, resV, resS, zaP, zaN, zaJ, St.tmF, zaW, idx, renO, zaK, evS, slot, lookR, zaa, ↓reduceIte, reduceCtorEq, if_true, if_false, zaQ, zaR, zal, zao, sLoad, readAt, readNeed, Ints_ren, Ints_length, Ints_getD, and_true, true_and, zaL, zaM, zaW, lookR, renO, zaK, zaJ, idx, zal, zao, Ints_ren, zat, zaD, false_implies, implies_true, Option.some.injEq, forall_eq', and_true, true_and, frzHp, frzO, Cs_ren]) <;> (try rfl) <;> (try ((repeat' apply zaB) <;> (first | trivial | exact fun c hc q hq => absurd hq (Ints_refs0 _ _ c hc) | (simp [zaS]; done)))))
theorem rmN_app (a b : List Nd) (id : Int) : rmN (a ++ b) id = rmN a id ++ rmN b id := List.filter_append ..
theorem rmN_all {a : List Nd} {id : Int} (h : ∀ x ∈ a, x.i ≠ id) : rmN a id = a := List.filter_eq_self.2 fun x hx => by
  simp only [zaG, decide_eq_false_iff_not]
  exact h x hx
theorem rmN_ix {l : List Nd} {n : Int} (h : VT l n) {i : Nat} (hi : i < l.length) : rmN l (gN l i).i = l.take i ++ l.drop (i + 1) := by
 have hs : l = l.take i ++ gN l i :: l.drop (i + 1) := by
   conv => lhs; rw [← List.take_append_drop i l]
   rw [drop_getD l i zn hi]
 have h1 : ∀ x ∈ l.take i, x.i ≠ (gN l i).i := fun x hx => by
   obtain ⟨j, hj, rfl⟩ := List.mem_iff_getElem.1 hx
   rw [List.length_take] at hj
   rw [List.getElem_take, ← getD_at l j zn (by omega)]
   have := h.asc j i (by omega) hi
   show (gN l j).i ≠ _
   omega
 have h2 : ∀ x ∈ l.drop (i + 1), x.i ≠ (gN l i).i := fun x hx => by
   obtain ⟨j, hj, rfl⟩ := List.mem_iff_getElem.1 hx
   rw [zaO] at hj
   rw [List.getElem_drop, ← getD_at l (i + 1 + j) zn (by omega)]
   have := h.asc i (i + 1 + j) (by omega) (by omega)
   show (gN l (i + 1 + j)).i ≠ _
   omega
 generalize hq : (gN l i).i = q at *
 conv => lhs; rw [hs]
 rw [rmN_app, rmN_all h1]
 have h3 : rmN (gN l i :: l.drop (i + 1)) q = rmN (l.drop (i + 1)) q := List.filter_cons_of_neg (by rw [hq]; simp)
 rw [h3, rmN_all h2]
set_option maxHeartbeats 16000000 in
theorem trem_spec (l : List Nd) (n id : Int) (hl : l.length ≤ 1000000) (hnm : NmR l) (hct : CtR l) : FnSpec Tryz.prog 83 [trV l none n, i1 id] [] (rmV (rmM l n id)) [] := by
 have h1 := tchk_spec l n hl hnm hct
 unfold rmM
 cases hc : chkT l n with
 | false =>
   rw [hc] at h1
   rw [if_pos rfl]
   refine fnspec_of mixed TT_ok TT_cl ⟨fun _ => false, fun _ => [], 0, fun _ => false, fun _ => false⟩ Tryz.func83 rfl (by kernel_rfl) rfl 42 rfl [.cell 4 25, .tmp 5] rfl ?_
   simp only [go_sem, zaa, zaq, zar, zas, zav, zah, ↓reduceIte, reduceCtorEq, zab, zac, zaw, zax, zay]
   repeat' (first
 | (apply cl_plain
    case hs => rfl
    case ha => exact yic
    case h => (first | exact h1 ..))
 | ((first | refine s1_id ?_ | refine swp_id ?_ | refine sops_id ?_ | refine s2_id ?_); simp only [zak, zam, zad, zan, zap, zai, zaj, zaf, zau, zaz, zag, zae, go_sem, zaa, zaq, zar, zas, zav, zah, ↓reduceIte, reduceCtorEq, zab, zac, zaw, zax, zay, zaP, zaN, zaJ, zaK, renO, bk, back, outUpsFrom, Ints_ren])
 | exact yib | fail)
   repeat' (first
 | exact yia
 | fail)
 | true =>
 rw [hc] at h1
 rw [if_neg (by decide)]
 have hV := (chkT_iff l n).1 hc
 have h3 := index_spec l none id hl
 have hhb := hasM_bs (id := id) hV
 have hbv := bsF_at Nd.i l id
 cases hh : hasM l n id with
 | false =>
   rw [← hhb, hh] at h3
   rw [if_pos rfl]
   generalize bsV Nd.i l id = v at *
   refine fnspec_of mixed TT_ok TT_cl ⟨fun _ => false, fun _ => [], 0, fun _ => false, fun _ => false⟩ Tryz.func83 rfl (by kernel_rfl) rfl 42 rfl [.cell 4 25, .tmp 5] rfl ?_
   simp only [go_sem, zaa, zaq, zar, zas, zav, zah, ↓reduceIte, reduceCtorEq, zab, zac, zaw, zax, zay]
   repeat' (first
 | (apply cl_plain
    case hs => rfl
    case ha => exact yic
    case h => (first | exact h1 .. | exact h3 ..))
 | ((first | refine s1_id ?_ | refine swp_id ?_ | refine sops_id ?_ | refine s2_id ?_); simp only [zak, zam, zad, zan, zap, zai, zaj, zaf, zau, zaz, zag, zae, go_sem, zaa, zaq, zar, zas, zav, zah, ↓reduceIte, reduceCtorEq, zab, zac, zaw, zax, zay, zaP, zaN, zaJ, zaK, renO, bk, back, outUpsFrom, Ints_ren])
 | exact yib | fail)
   repeat' (first
 | exact yia
 | fail)
 | true =>
 rw [← hhb, hh] at h3
 rw [if_neg (by decide)]
 obtain ⟨hv1, hv2⟩ := hbv (by rw [← hhb]; exact hh)
 have hv2 : (gN l (bsV Nd.i l id)).i = id := hv2
 generalize bsV Nd.i l id = v at *
 by_cases hi1 : id = 1
 · rw [if_pos hi1]
   refine fnspec_of mixed TT_ok TT_cl ⟨fun _ => false, fun _ => [], 0, fun _ => false, fun _ => false⟩ Tryz.func83 rfl (by kernel_rfl) rfl 42 rfl [.cell 4 25, .tmp 5] rfl ?_
   simp only [go_sem, zaa, zaq, zar, zas, zav, zah, ↓reduceIte, reduceCtorEq, zab, zac, zaw, zax, zay, decide_eq_true hi1]
   repeat' (first
 | (apply cl_plain
    case hs => rfl
    case ha => exact yic
    case h => (first | exact h1 .. | exact h3 ..))
 | ((first | refine s1_id ?_ | refine swp_id ?_ | refine sops_id ?_ | refine s2_id ?_); simp only [decide_eq_true hi1, zak, zam, zad, zan, zap, zai, zaj, zaf, zau, zaz, zag, zae, go_sem, zaa, zaq, zar, zas, zav, zah, ↓reduceIte, reduceCtorEq, zab, zac, zaw, zax, zay, zaP, zaN, zaJ, zaK, renO, bk, back, outUpsFrom, Ints_ren])
 | exact yib | fail)
   repeat' (first
 | exact yia
 | fail)
 rw [if_neg hi1]
 have h2 := below_spec l n hV.le
 have hmk := mkeys_gc (belowM l)
 have hk := bel_kids l id
 have hren : ∀ ρ, (gcN (belowM l)).map (zaJ ρ) = gcN (belowM l) := fun ρ => flat_ren (gcN_flat _) ρ
 have hcm : chM l n id = kidsL l id := by unfold chM; rw [hh, if_pos rfl]
 rw [hcm]
 have hle := hV.le
 have h6 := nd_cl l none hl
 have h7 := ndel_spec l v hv1 (by omega)
 have hrm := rmN_ix hV hv1
 rw [hv2] at hrm
 rw [← hrm] at h7
 have hrl : (rmN l id).length = l.length - 1 := by
   rw [hrm, zaV, List.length_take, zaO]; omega
 generalize rmN l id = R at *
 generalize kidsL l id = K at *
 generalize gcN (belowM l) = M at *
 clear hrm
 have hz : ¬ ((0 : Int) < 0) := by omega
 rcases hk with ⟨e1, rfl⟩ | e1
 · rw [if_neg (by decide)]
   refine fnspec_of mixed TT_ok TT_cl ⟨fun _ => false, fun f => if f = 111 then [0] else [], 0, fun _ => false, fun _ => false⟩ Tryz.func83 rfl (by kernel_rfl) rfl 42 rfl [.cell 4 25, .tmp 5] rfl ?_
   simp only [go_sem, zaa, zaq, zar, zas, zav, zah, ↓reduceIte, reduceCtorEq, zab, zac, zaw, zax, zay, e1, hmk, hren, decide_eq_false hi1, agg_sl, mval_none]
   repeat' (first
 | with_reducible refine zaB ?_ ?_
 | (unfold OKC; kernel_rfl)
 | (unfold EDG; kernel_rfl)
 | (apply cl_plain
    case hs => rfl
    case ha => exact yic
    case h => exact yig)
 | (apply cl_lend
    case hr => exact yie
    case ha => exact yic
    case hs => rfl
    case hn => decide
    case h => exact yig
    case hf => exact yid
    case hl => exact yih)
 | ((first | refine s1_id ?_ | refine swp_id ?_ | refine sops_id ?_ | refine s2_id ?_); simp only [e1, hmk, hren, decide_eq_false hi1, agg_sl, mval_none, zak, zam, zad, zan, zap, zai, zaj, zaf, zau, zaz, zag, zae, go_sem, zaa, zaq, zar, zas, zav, zah, ↓reduceIte, reduceCtorEq, zab, zac, zaw, zax, zay, zaP, zaN, zaJ, zaK, renO, bk, back, outUpsFrom, Ints_ren])
 | (intros; omega)
 | exact yib | fail)
   rw [show rmV ((R, n), 0) = .tup [.agg [.gsl (Cs R) 0 (l.length - 1) none, int n], i1 0] from by rw [← hrl]]
   repeat' (first
 | exact yia
 | fail)
 · by_cases c : 0 < (K.length : Int)
   · rw [if_pos c]
     refine fnspec_of mixed TT_ok TT_cl ⟨fun _ => false, fun _ => [], 0, fun _ => false, fun _ => false⟩ Tryz.func83 rfl (by kernel_rfl) rfl 42 rfl [.cell 4 25, .tmp 5] rfl ?_
     simp only [go_sem, zaa, zaq, zar, zas, zav, zah, ↓reduceIte, reduceCtorEq, zab, zac, zaw, zax, zay, e1, hmk, hren, decide_eq_false hi1, decide_eq_true c, agg_sl, mval_some]
     repeat' (first
 | (apply cl_plain
    case hs => rfl
    case ha => exact yic
    case h => exact yii)
 | ((first | refine s1_id ?_ | refine swp_id ?_ | refine sops_id ?_ | refine s2_id ?_); simp only [e1, hmk, hren, decide_eq_false hi1, decide_eq_true c, agg_sl, mval_some, zak, zam, zad, zan, zap, zai, zaj, zaf, zau, zaz, zag, zae, go_sem, zaa, zaq, zar, zas, zav, zah, ↓reduceIte, reduceCtorEq, zab, zac, zaw, zax, zay, zaP, zaN, zaJ, zaK, renO, bk, back, outUpsFrom, Ints_ren])
 | exact yib | fail)
     repeat' (first
 | exact yia
 | fail)
   · rw [if_neg c]
     refine fnspec_of mixed TT_ok TT_cl ⟨fun _ => false, fun f => if f = 111 then [0] else [], 0, fun _ => false, fun _ => false⟩ Tryz.func83 rfl (by kernel_rfl) rfl 42 rfl [.cell 4 25, .tmp 5] rfl ?_
     simp only [go_sem, zaa, zaq, zar, zas, zav, zah, ↓reduceIte, reduceCtorEq, zab, zac, zaw, zax, zay, e1, hmk, hren, decide_eq_false hi1, decide_eq_false c, agg_sl, mval_some]
     repeat' (first
 | with_reducible refine zaB ?_ ?_
 | (unfold OKC; kernel_rfl)
 | (unfold EDG; kernel_rfl)
 | (apply cl_plain
    case hs => rfl
    case ha => exact yic
    case h => exact yig)
 | (apply cl_lend
    case hr => exact yie
    case ha => exact yic
    case hs => rfl
    case hn => decide
    case h => exact yig
    case hf => exact yid
    case hl => exact yih)
 | ((first | refine s1_id ?_ | refine swp_id ?_ | refine sops_id ?_ | refine s2_id ?_); simp only [e1, hmk, hren, decide_eq_false hi1, decide_eq_false c, agg_sl, mval_some, zak, zam, zad, zan, zap, zai, zaj, zaf, zau, zaz, zag, zae, go_sem, zaa, zaq, zar, zas, zav, zah, ↓reduceIte, reduceCtorEq, zab, zac, zaw, zax, zay, zaP, zaN, zaJ, zaK, renO, bk, back, outUpsFrom, Ints_ren])
 | (intros; omega)
 | exact yib | fail)
     rw [show rmV ((R, n), 0) = .tup [.agg [.gsl (Cs R) 0 (l.length - 1) none, int n], i1 0] from by rw [← hrl]]
     repeat' (first
 | exact yia
 | fail)
def rvM6 (l : List Nd) (n : Int) (T : List Tk) (h g : Int) : Hy × Int :=
  if hyM l n T h = true then
    if (rmM l n g).2 = 0 then
      if 0 < ((tsM l n T h g).length : Int) then (z6, 6) else (((rmM l n g).1.1, (rmM l n g).1.2, T, h), 0)
    else (z6, (rmM l n g).2)
  else (z6, 1)
set_option maxHeartbeats 8000000 in
theorem mrem_spec (l : List Nd) (n : Int) (T : List Tk) (h g : Int) (hl : l.length ≤ 1000000) (hT : T.length ≤ 1000000) (hnm : NmR l) (hct : CtR l) : FnSpec Tryz.prog 40 [hyV l none n T none h, i1 g] [] (.tup [hyQ (rvM6 l n T h g).1, i1 (rvM6 l n T h g).2]) [] := by
 have h1 := mcheck_spec l n T h hl (by omega) hnm hct
 have h2 := trem_spec l n g hl hnm hct
 have h3 := mtasks_spec l n T h g hl hT hnm hct
 have h4 := tk_cl T none hT
 unfold rvM6
 cases hv : hyM l n T h with
 | false =>
   (try rw [hv] at h1)
   (try rw [if_neg (by decide)])
   simp only [Cs_nil, zae]
   refine fnspec_of mixed TT_ok TT_cl ⟨fun _ => false, fun _ => [], 0, fun _ => false, fun _ => false⟩ Tryz.func40 rfl (by kernel_rfl) rfl 36 rfl [.cell 4 28, .tmp 5] rfl ?_
   simp only [go_sem, zaa, zaq, zar, zas, zav, zah, ↓reduceIte, reduceCtorEq, zab, zac, zaw, zax, zay, zak, zam, zad, zan, zap, zai, zaj, zaf, zau, zaz, zag, zae]
   repeat' (first
 | (apply cl_plain
    case hs => rfl
    case ha => exact yic
    case h => (first | exact h1 ..))
 | ((first | refine s1_id ?_ | refine swp_id ?_ | refine sops_id ?_ | refine s2_id ?_); simp only [zak, zam, zad, zan, zap, zai, zaj, zaf, zau, zaz, zag, zae, go_sem, zaa, zaq, zar, zas, zav, zah, ↓reduceIte, reduceCtorEq, zab, zac, zaw, zax, zay, zaP, zaN, zaJ, zaK, renO, bk, back, outUpsFrom, Ints_ren])
 | exact yib | fail)
   repeat' (first
 | exact yia
 | fail)
 | true =>
 (try rw [hv] at h1)
 (try rw [if_pos rfl])
 generalize tsM l n T h g = K at *
 generalize rmM l n g = R at *
 obtain ⟨⟨l', n'⟩, e'⟩ := R
 simp only [rmV] at h2 ⊢
 by_cases e : e' = 0
 case neg =>
   (try rw [if_neg e])
   simp only [Cs_nil, zae]
   refine fnspec_of mixed TT_ok TT_cl ⟨fun _ => false, fun _ => [], 0, fun _ => false, fun _ => false⟩ Tryz.func40 rfl (by kernel_rfl) rfl 36 rfl [.cell 4 28, .tmp 5] rfl ?_
   simp only [go_sem, zaa, zaq, zar, zas, zav, zah, ↓reduceIte, reduceCtorEq, zab, zac, zaw, zax, zay, decide_eq_false e, zak, zam, zad, zan, zap, zai, zaj, zaf, zau, zaz, zag, zae]
   repeat' (first
 | (apply cl_plain
    case hs => rfl
    case ha => exact yic
    case h => (first | exact h1 .. | exact h2 ..))
 | ((first | refine s1_id ?_ | refine swp_id ?_ | refine sops_id ?_ | refine s2_id ?_); simp only [decide_eq_false e, zak, zam, zad, zan, zap, zai, zaj, zaf, zau, zaz, zag, zae, go_sem, zaa, zaq, zar, zas, zav, zah, ↓reduceIte, reduceCtorEq, zab, zac, zaw, zax, zay, zaP, zaN, zaJ, zaK, renO, bk, back, outUpsFrom, Ints_ren])
 | exact yib | fail)
   repeat' (first
 | exact yia
 | fail)
 (try rw [if_pos e])
 by_cases e2 : 0 < (K.length : Int)
 · (try rw [if_pos e2])
   simp only [Cs_nil, zae]
   refine fnspec_of mixed TT_ok TT_cl ⟨fun _ => false, fun _ => [], 0, fun _ => false, fun _ => false⟩ Tryz.func40 rfl (by kernel_rfl) rfl 36 rfl [.cell 4 28, .tmp 5] rfl ?_
   simp only [go_sem, zaa, zaq, zar, zas, zav, zah, ↓reduceIte, reduceCtorEq, zab, zac, zaw, zax, zay, decide_eq_true e, decide_eq_true e2, zak, zam, zad, zan, zap, zai, zaj, zaf, zau, zaz, zag, zae]
   repeat' (first
 | (apply cl_plain
    case hs => rfl
    case ha => exact yic
    case h => exact yii)
 | ((first | refine s1_id ?_ | refine swp_id ?_ | refine sops_id ?_ | refine s2_id ?_); simp only [decide_eq_true e, decide_eq_true e2, zak, zam, zad, zan, zap, zai, zaj, zaf, zau, zaz, zag, zae, go_sem, zaa, zaq, zar, zas, zav, zah, ↓reduceIte, reduceCtorEq, zab, zac, zaw, zax, zay, zaP, zaN, zaJ, zaK, renO, bk, back, outUpsFrom, Ints_ren])
 | exact yib | fail)
   repeat' (first
 | exact yia
 | fail)
 (try rw [if_neg e2])
 refine fnspec_of mixed TT_ok TT_cl ⟨fun _ => false, fun _ => [], 0, fun _ => false, fun _ => false⟩ Tryz.func40 rfl (by kernel_rfl) rfl 36 rfl [.cell 4 28, .tmp 5] rfl ?_
 simp only [go_sem, zaa, zaq, zar, zas, zav, zah, ↓reduceIte, reduceCtorEq, zab, zac, zaw, zax, zay, decide_eq_true e, decide_eq_false e2, zak, zam, zad, zan, zap, zai, zaj, zaf, zau, zaz, zag, zae]
 repeat' (first
 | with_reducible refine zaB ?_ ?_
 | (unfold OKC; kernel_rfl)
 | (unfold EDG; kernel_rfl)
 | (apply cl_plain
    case hs => rfl
    case ha => exact yic
    case h => (first | exact h1 .. | exact h2 .. | exact h3 .. | exact h4 ..))
 | ((first | refine s1_id ?_ | refine swp_id ?_ | refine sops_id ?_ | refine s2_id ?_); simp only [decide_eq_true e, decide_eq_false e2, zak, zam, zad, zan, zap, zai, zaj, zaf, zau, zaz, zag, zae, go_sem, zaa, zaq, zar, zas, zav, zah, ↓reduceIte, reduceCtorEq, zab, zac, zaw, zax, zay, zaP, zaN, zaJ, zaK, renO, bk, back, outUpsFrom, Ints_ren])
 | exact yib | fail)
 (refine fs_frz 26 ⟨Cs T, 4⟩ (by simp only [zaW, lookR, zaa, if_true, if_false, ↓reduceIte]) (by first | exact Ints_isG _ | exact Bools_isG _ | exact Cs_isG _ | (simp [Cell.isG]; done)) ?_; simp only [frzTm, SV.frz, SV.frzL, Cell.frz, frzHp, frzO, Ints_frz, Bools_frz, zal, zao, zaa, if_true, if_false, ↓reduceIte])
 repeat' (first
 | exact yia
 | fail)
set_option maxHeartbeats 8000000 in
theorem rrem6_spec (l : List Nd) (n : Int) (T : List Tk) (h g : Int) (hl : l.length ≤ 1000000) (hT : T.length ≤ 1000000) (hnm : NmR l) : FnSpec Tryz.prog 41 [hyV l none n T none h, i1 g] [] (.tup [hyQ (rvM6 l n T h g).1, i1 (rvM6 l n T h g).2]) [] := by
 have h1 := rcheck6 l n T h hl (by omega) hnm
 have h2 := rrem_spec l none n g hl hnm
 have h3 := rtasks6_spec l n T h g hl hT hnm
 unfold rvM6
 cases hv : hyM l n T h with
 | false =>
   (try rw [hv] at h1)
   (try rw [if_neg (by decide)])
   simp only [Cs_nil, zae]
   refine fnspec_of mixed TT_ok TT_cl ⟨fun _ => false, fun _ => [], 0, fun _ => false, fun _ => false⟩ Tryz.func41 rfl (by kernel_rfl) rfl 35 rfl [.cell 4 28, .tmp 5] rfl ?_
   simp only [go_sem, zaa, zaq, zar, zas, zav, zah, ↓reduceIte, reduceCtorEq, zab, zac, zaw, zax, zay, zak, zam, zad, zan, zap, zai, zaj, zaf, zau, zaz, zag, zae]
   repeat' (first
 | (apply cl_plain
    case hs => rfl
    case ha => exact yic
    case h => (first | exact h1 ..))
 | ((first | refine s1_id ?_ | refine swp_id ?_ | refine sops_id ?_ | refine s2_id ?_); simp only [zak, zam, zad, zan, zap, zai, zaj, zaf, zau, zaz, zag, zae, go_sem, zaa, zaq, zar, zas, zav, zah, ↓reduceIte, reduceCtorEq, zab, zac, zaw, zax, zay, zaP, zaN, zaJ, zaK, renO, bk, back, outUpsFrom, Ints_ren])
 | exact yib | fail)
   repeat' (first
 | exact yia
 | fail)
 | true =>
 (try rw [hv] at h1)
 (try rw [if_pos rfl])
 obtain ⟨hV, hTl, _, _, _⟩ := hy_all hv
 have h4 := rhcopy_spec l n T h hV.ne hl hT
 generalize tsM l n T h g = K at *
 generalize rmM l n g = R at *
 obtain ⟨⟨l', n'⟩, e'⟩ := R
 simp only [rmV] at h2 ⊢
 by_cases e : e' = 0
 case neg =>
   (try rw [if_neg e])
   simp only [Cs_nil, zae]
   refine fnspec_of mixed TT_ok TT_cl ⟨fun _ => false, fun _ => [], 0, fun _ => false, fun _ => false⟩ Tryz.func41 rfl (by kernel_rfl) rfl 35 rfl [.cell 4 28, .tmp 5] rfl ?_
   simp only [go_sem, zaa, zaq, zar, zas, zav, zah, ↓reduceIte, reduceCtorEq, zab, zac, zaw, zax, zay, decide_eq_false e, zak, zam, zad, zan, zap, zai, zaj, zaf, zau, zaz, zag, zae]
   repeat' (first
 | (apply cl_plain
    case hs => rfl
    case ha => exact yic
    case h => (first | exact h1 .. | exact h2 ..))
 | ((first | refine s1_id ?_ | refine swp_id ?_ | refine sops_id ?_ | refine s2_id ?_); simp only [decide_eq_false e, zak, zam, zad, zan, zap, zai, zaj, zaf, zau, zaz, zag, zae, go_sem, zaa, zaq, zar, zas, zav, zah, ↓reduceIte, reduceCtorEq, zab, zac, zaw, zax, zay, zaP, zaN, zaJ, zaK, renO, bk, back, outUpsFrom, Ints_ren])
 | exact yib | fail)
   repeat' (first
 | exact yia
 | fail)
 (try rw [if_pos e])
 by_cases e2 : 0 < (K.length : Int)
 · (try rw [if_pos e2])
   simp only [Cs_nil, zae]
   refine fnspec_of mixed TT_ok TT_cl ⟨fun _ => false, fun _ => [], 0, fun _ => false, fun _ => false⟩ Tryz.func41 rfl (by kernel_rfl) rfl 35 rfl [.cell 4 28, .tmp 5] rfl ?_
   simp only [go_sem, zaa, zaq, zar, zas, zav, zah, ↓reduceIte, reduceCtorEq, zab, zac, zaw, zax, zay, decide_eq_true e, decide_eq_true e2, zak, zam, zad, zan, zap, zai, zaj, zaf, zau, zaz, zag, zae]
   repeat' (first
 | (apply cl_plain
    case hs => rfl
    case ha => exact yic
    case h => exact yii)
 | ((first | refine s1_id ?_ | refine swp_id ?_ | refine sops_id ?_ | refine s2_id ?_); simp only [decide_eq_true e, decide_eq_true e2, zak, zam, zad, zan, zap, zai, zaj, zaf, zau, zaz, zag, zae, go_sem, zaa, zaq, zar, zas, zav, zah, ↓reduceIte, reduceCtorEq, zab, zac, zaw, zax, zay, zaP, zaN, zaJ, zaK, renO, bk, back, outUpsFrom, Ints_ren])
 | exact yib | fail)
   repeat' (first
 | exact yia
 | fail)
 (try rw [if_neg e2])
 refine fnspec_of mixed TT_ok TT_cl ⟨fun _ => false, fun _ => [], 0, fun _ => false, fun _ => false⟩ Tryz.func41 rfl (by kernel_rfl) rfl 35 rfl [.cell 4 28, .tmp 5] rfl ?_
 simp only [go_sem, zaa, zaq, zar, zas, zav, zah, ↓reduceIte, reduceCtorEq, zab, zac, zaw, zax, zay, decide_eq_true e, decide_eq_false e2, zak, zam, zad, zan, zap, zai, zaj, zaf, zau, zaz, zag, zae]
 repeat' (first
 | (apply cl_plain
    case hs => rfl
    case ha => exact yic
    case h => (first | exact h1 .. | exact h2 .. | exact h3 .. | exact h4 ..))
 | ((first | refine s1_id ?_ | refine swp_id ?_ | refine sops_id ?_ | refine s2_id ?_); simp only [decide_eq_true e, decide_eq_false e2, zak, zam, zad, zan, zap, zai, zaj, zaf, zau, zaz, zag, zae, go_sem, zaa, zaq, zar, zas, zav, zah, ↓reduceIte, reduceCtorEq, zab, zac, zaw, zax, zay, zaP, zaN, zaJ, zaK, renO, bk, back, outUpsFrom, Ints_ren])
 | exact yib | fail)
 (refine fs_frz 25 ⟨Cs T, 4⟩ (by simp only [zaW, lookR, zaa, if_true, if_false, ↓reduceIte]) (by first | exact Ints_isG _ | exact Bools_isG _ | exact Cs_isG _ | (simp [Cell.isG]; done)) ?_; simp only [frzTm, SV.frz, SV.frzL, Cell.frz, frzHp, frzO, Ints_frz, Bools_frz, zal, zao, zaa, if_true, if_false, ↓reduceIte])
 repeat' (first
 | exact yia
 | fail)
def dgB2 (L : List Int) (l : List Nd) (j : Nat) : Bool := decide (nxV L j 15 = 14) || decide (l.length = 0)
def dgV2 (L : List Int) (l : List Nd) (j : Nat) : Int := if dgB2 L l j = true then nxV L (nxA L j 15) 9 - 1 else (gN l (nxV L (nxA L j 15) l.length).toNat).i
def dgA2 (L : List Int) (l : List Nd) (j : Nat) : Nat := if dgB2 L l j = true then nxA L (nxA L j 15) 9 else nxA L (nxA L j 15) l.length
set_option maxHeartbeats 8000000 in
theorem dgroup2_spec (L : List Int) (hl : L.length ≤ 600) (hr : ∀ x ∈ L, -9223372036854775808 ≤ x ∧ x ≤ 9223372036854775807) (j : Nat) (l : List Nd) (n : Int) (hT : l.length ≤ 1000000) : FnSpec Tryz.prog 13 [dp, trV l none n] [dice L j] (i1 (dgV2 L l j)) [some (dice L (dgA2 L l j))] := by
 have b1' := bool_spec L j 15 hl hr (by decide)
 have hcl := nd_len l
 unfold dgV2 dgA2 dgB2
 have n2 := next_spec L (nxA L j 15) 9 hl hr (by decide)
 have r2 := nx_rng L (nxA L j 15) 9 (by decide)
 have n3 := next_spec L (nxA L j 15) l.length hl hr (by omega)
 have r3 := nx_rng L (nxA L j 15) l.length
 generalize nxA L j 15 = j1 at *
 generalize nxV L j1 9 = v at *
 generalize nxA L j1 9 = j2 at *
 rw [show (15 : Int) - 1 = 14 from rfl] at b1'
 by_cases e1 : nxV L j 15 = 14
 · (try rw [if_pos e1])
   rw [decide_eq_true e1] at b1' ⊢
   rw [Bool.true_or, if_pos rfl, if_pos rfl]
   refine fnspec_of mixed TT_ok TT_cl ⟨fun _ => false, lendD, 1, fun _ => false, fun _ => false⟩ Tryz.func13 rfl (by kernel_rfl) rfl 26 rfl [.tmp 4] rfl ?_
   simp only [go_sem, zaa, zaq, zar, zas, zav, zah, ↓reduceIte, reduceCtorEq, zab, zac, zaw, zax, zay, lendD, dice, decide_eq_true e1, zak, zam, zad, zan, zap, zai, zaj, zaf, zau, zaz, zag, zae]
   repeat' (first
 | with_reducible refine zaB ?_ ?_
 | (apply cl_lend
    case hr => exact yie
    case ha => exact yic
    case hs => rfl
    case hn => decide
    case h => (first | exact b1' .. | exact n2 ..)
    case hf => exact yid
    case hl => exact yih)
 | ((first | refine s1_id ?_ | refine swp_id ?_ | refine sops_id ?_ | refine s2_id ?_); simp only [lendD, dice, decide_eq_true e1, zak, zam, zad, zan, zap, zai, zaj, zaf, zau, zaz, zag, zae, go_sem, zaa, zaq, zar, zas, zav, zah, ↓reduceIte, reduceCtorEq, zab, zac, zaw, zax, zay, zaP, zaN, zaJ, zaK, renO, bk, back, outUpsFrom, Ints_ren])
 | (intros; omega)
 | exact yib | fail)
   (refine fs_flat [(0, dice L j2)] (by simp) (by simp only [zal, zao]; decide) (by simp only [go_sem, resV, resS, zaP, zaN, zaJ, St.tmF, zaW, idx, renO, zaK, evS, slot, lookR, zaa, ↓reduceIte, reduceCtorEq, if_true, if_false, zaQ, zaR, zal, zao, sLoad, readAt, readNeed, Ints_ren, Ints_length, Ints_getD, and_true, true_and, zaL, zaM]; try decide) ?_ (by simp only [zat, zaD, false_implies, implies_true, and_true, zaW, lookR, zaa, if_true, if_false, ↓reduceIte, dice] <;> (repeat' apply zaB) <;> (first | rfl | trivial)) (by simp only [zat, zaD, false_implies, implies_true, and_true, true_and, flat_cons, flat_nil, flat_ints, flat_bools, flat_app, zaS, and_self, eq_self_iff_true, zad, dice]) ?_ <;> (try simp only [go_sem, resV, resS, zaP, zaN, zaJ, St.tmF, zaW, idx, renO, zaK, evS, slot, lookR, zaa, ↓reduceIte, reduceCtorEq, if_true, if_false, zaQ, zaR, zal, zao, sLoad, readAt, readNeed, Ints_ren, Ints_length, Ints_getD, and_true, true_and, zaL, zaM]) <;> (try rfl))
 (try rw [if_neg e1])
 rw [decide_eq_false e1] at b1' ⊢
 rw [Bool.false_or]
 by_cases e2 : l.length = 0
 · (try rw [if_pos e2])
   have e2' : (l.length : Int) = 0 := by omega
   rw [decide_eq_true e2, if_pos rfl, if_pos rfl]
   refine fnspec_of mixed TT_ok TT_cl ⟨fun _ => false, lendD, 1, fun _ => false, fun _ => false⟩ Tryz.func13 rfl (by kernel_rfl) rfl 26 rfl [.tmp 4] rfl ?_
   simp only [go_sem, zaa, zaq, zar, zas, zav, zah, ↓reduceIte, reduceCtorEq, zab, zac, zaw, zax, zay, lendD, dice, decide_eq_false e1, decide_eq_true e2, decide_eq_true e2', zak, zam, zad, zan, zap, zai, zaj, zaf, zau, zaz, zag, zae]
   repeat' (first
 | with_reducible refine zaB ?_ ?_
 | (apply cl_lend
    case hr => exact yie
    case ha => exact yic
    case hs => rfl
    case hn => decide
    case h => (first | exact b1' .. | exact n2 ..)
    case hf => exact yid
    case hl => exact yih)
 | ((first | refine s1_id ?_ | refine swp_id ?_ | refine sops_id ?_ | refine s2_id ?_); simp only [lendD, dice, decide_eq_false e1, decide_eq_true e2, decide_eq_true e2', zak, zam, zad, zan, zap, zai, zaj, zaf, zau, zaz, zag, zae, go_sem, zaa, zaq, zar, zas, zav, zah, ↓reduceIte, reduceCtorEq, zab, zac, zaw, zax, zay, zaP, zaN, zaJ, zaK, renO, bk, back, outUpsFrom, Ints_ren])
 | (intros; omega)
 | exact yib | fail)
   (refine fs_flat [(0, dice L j2)] (by simp) (by simp only [zal, zao]; decide) (by simp only [go_sem, resV, resS, zaP, zaN, zaJ, St.tmF, zaW, idx, renO, zaK, evS, slot, lookR, zaa, ↓reduceIte, reduceCtorEq, if_true, if_false, zaQ, zaR, zal, zao, sLoad, readAt, readNeed, Ints_ren, Ints_length, Ints_getD, and_true, true_and, zaL, zaM]; try decide) ?_ (by simp only [zat, zaD, false_implies, implies_true, and_true, zaW, lookR, zaa, if_true, if_false, ↓reduceIte, dice] <;> (repeat' apply zaB) <;> (first | rfl | trivial)) (by simp only [zat, zaD, false_implies, implies_true, and_true, true_and, flat_cons, flat_nil, flat_ints, flat_bools, flat_app, zaS, and_self, eq_self_iff_true, zad, dice]) ?_ <;> (try simp only [go_sem, resV, resS, zaP, zaN, zaJ, St.tmF, zaW, idx, renO, zaK, evS, slot, lookR, zaa, ↓reduceIte, reduceCtorEq, if_true, if_false, zaQ, zaR, zal, zao, sLoad, readAt, readNeed, Ints_ren, Ints_length, Ints_getD, and_true, true_and, zaL, zaM]) <;> (try rfl))
 (try rw [if_neg e2])
 have e2' : ¬ (l.length : Int) = 0 := by omega
 rw [decide_eq_false e2, if_neg (by decide), if_neg (by decide)]
 have r3 := r3 (by omega)
 generalize nxA L j1 l.length = j3 at *
 obtain ⟨x, hx, hxl⟩ : ∃ x : Nat, nxV L j1 l.length = x ∧ x < l.length := ⟨(nxV L j1 l.length).toNat, by omega, by omega⟩
 rw [hx] at n3 ⊢
 rw [Int.toNat_natCast]
 obtain ⟨q0, _⟩ := nd_f l x hxl (.sc (.int .i64 0))
 refine fnspec_of mixed TT_ok TT_cl ⟨fun _ => false, lendD, 1, fun _ => false, fun _ => false⟩ Tryz.func13 rfl (by kernel_rfl) rfl 26 rfl [.tmp 4] rfl ?_
 simp only [go_sem, zaa, zaq, zar, zas, zav, zah, ↓reduceIte, reduceCtorEq, zab, zac, zaw, zax, zay, lendD, dice, decide_eq_false e1, decide_eq_false e2, decide_eq_false e2', q0, zak, zam, zad, zan, zap, zai, zaj, zaf, zau, zaz, zag, zae]
 repeat' (first
 | with_reducible refine zaB ?_ ?_
 | (unfold OKC; kernel_rfl)
 | (unfold EDG; kernel_rfl)
 | (apply cl_lend
    case hr => exact yie
    case ha => exact yic
    case hs => rfl
    case hn => decide
    case h => (first | exact b1' .. | exact n3 ..)
    case hf => exact yid
    case hl => exact yih)
 | ((first | refine s1_id ?_ | refine swp_id ?_ | refine sops_id ?_ | refine s2_id ?_); simp only [lendD, dice, decide_eq_false e1, decide_eq_false e2, decide_eq_false e2', q0, zak, zam, zad, zan, zap, zai, zaj, zaf, zau, zaz, zag, zae, go_sem, zaa, zaq, zar, zas, zav, zah, ↓reduceIte, reduceCtorEq, zab, zac, zaw, zax, zay, zaP, zaN, zaJ, zaK, renO, bk, back, outUpsFrom, Ints_ren])
 | (intros; omega)
 | exact yib | fail)
 (refine fs_flat [(0, dice L j3)] (by simp) (by simp only [zal, zao]; decide) (by simp only [go_sem, resV, resS, zaP, zaN, zaJ, St.tmF, zaW, idx, renO, zaK, evS, slot, lookR, zaa, ↓reduceIte, reduceCtorEq, if_true, if_false, zaQ, zaR, zal, zao, sLoad, readAt, readNeed, Ints_ren, Ints_length, Ints_getD, and_true, true_and, zaL, zaM]; try decide) ?_ (by simp only [zat, zaD, false_implies, implies_true, and_true, zaW, lookR, zaa, if_true, if_false, ↓reduceIte, dice] <;> (repeat' apply zaB) <;> (first | rfl | trivial)) (by simp only [zat, zaD, false_implies, implies_true, and_true, true_and, flat_cons, flat_nil, flat_ints, flat_bools, flat_app, zaS, and_self, eq_self_iff_true, zad, dice]) ?_ <;> (try simp only [go_sem, resV, resS, zaP, zaN, zaJ, St.tmF, zaW, idx, renO, zaK, evS, slot, lookR, zaa, ↓reduceIte, reduceCtorEq, if_true, if_false, zaQ, zaR, zal, zao, sLoad, readAt, readNeed, Ints_ren, Ints_length, Ints_getD, and_true, true_and, zaL, zaM]) <;> (try rfl))
instance : Rec Hy := ⟨fun q => hyc q.1 none q.2.1 q.2.2.1 none q.2.2.2, 4, z6, fun _ => rfl, fun q c h => by
  simp only [hyc, List.mem_cons, zaD, or_false] at h
  rcases h with rfl | rfl | rfl | rfl <;> rfl⟩
theorem hy_td (Q : List Hy) (i : Nat) (h : i < Q.length) : List.take 4 (List.drop (i * 4) (Cs Q)) = hyc (Q.getD i z6).1 none (Q.getD i z6).2.1 (Q.getD i z6).2.2.1 none (Q.getD i z6).2.2.2 := Cs_td Q i h
theorem hyr_len (Q : List Hy) : (Cs Q).length = Q.length * 4 := Cs_len Q
structure HyA (q : Hy) : Prop where
  l : q.1.length ≤ 1000
  t : q.2.2.1.length ≤ 1000
  nm : NmR q.1
  ct : CtR q.1
theorem HI.a {q : Hy} (h : HI q) : HyA q := ⟨by have := h.p.v.le; omega, by have := h.p.le; omega, h.b.nm, h.ct⟩
theorem ctV_rng (D : List Int) (j : Nat) : -1 ≤ ctV D j ∧ ctV D j ≤ 32 := by
 unfold ctV
 have hn := nx_rng D j 9 (by decide)
 generalize nxV D j 9 = x at *
 have hc : x = 0 ∨ x = 1 ∨ x = 2 ∨ x = 3 ∨ x = 4 ∨ x = 5 ∨ x = 6 ∨ x = 7 ∨ x = 8 := by omega
 rcases hc with rfl | rfl | rfl | rfl | rfl | rfl | rfl | rfl | rfl <;> exact ⟨by decide, by decide⟩
theorem set_all {α : Type} {l : List α} {i : Nat} {v : α} {P : α → Prop} (h : ∀ x ∈ l, P x) (hv : P v) : ∀ x ∈ l.set i v, P x := fun x hx => by
  rcases List.mem_or_eq_of_mem_set hx with e | e
  · exact h x e
  · rw [e]; exact hv
theorem oh_a (D : List Int) (j : Nat) {q : Hy} (h : HI q) : HyA (ohM D j q).1 := by
 obtain ⟨l, n, T, hh⟩ := q
 have h1 := oh_len D j l n hh
 have h2 := oh_tl D T (ohL D j l n hh).2
 have ha := h.a
 have hp : ∀ x ∈ l, x.nm.length ≤ 9223372036854775807 ∧ (-9223372036854775808 ≤ x.c ∧ x.c ≤ 9223372036854775807) := fun x hx => ⟨ha.nm x hx, ha.ct x hx⟩
 have h3 : ∀ x ∈ (ohL D j l n hh).1.1, x.nm.length ≤ 9223372036854775807 ∧ (-9223372036854775808 ≤ x.c ∧ x.c ≤ 9223372036854775807) := by
   unfold ohL
   generalize nxV D (nxA D j l.length) 12 = v
   generalize nxA D (nxA D j l.length) 12 = j2
   have htl : (nxV D j l.length).toNat < l.length := by
     have h1 := h.p.v.ne
     simp only at h1
     have := nx_rng D j l.length (by omega)
     omega
   generalize (nxV D j l.length).toNat = t at *
   have hg := hp _ (getD_mem l t zn htl)
   rw [show l.getD t zn = gN l t from rfl] at hg
   have hw := wdV_len D j2
   have hc := ctV_rng D j2
   unfold ohK
   repeat' split
   all_goals first
     | exact hp
     | (refine set_all hp ⟨?_, ?_⟩ <;> simp only <;> omega)
     | (intro x hx; rcases List.mem_append.1 hx with e | e; exact hp x e; rw [List.mem_singleton.1 e]; exact hg)
 exact ⟨by show (ohL D j l n hh).1.1.length ≤ 1000; have := h.p.v.le; simp only at this; omega, by show (ohU D T (ohL D j l n hh).2).1.length ≤ 1000; have := ha.t; simp only at this; omega, fun x hx => (h3 x hx).1, fun x hx => (h3 x hx).2⟩
theorem hsame6_spec (l : List Nd) (n : Int) (T : List Tk) (h : Int) (hl : l.length ≤ 1000000) (hT : T.length ≤ 1000000) : FnSpec Tryz.prog 28 [hyV l none n T none h, hyV l none n T none h] [] (b1 true) [] := hsame_spec l n T h hl hT
structure HyS (q : Hy) : Prop where
  l : q.1.length ≤ 1000000
  t : q.2.2.1.length ≤ 1000000
theorem HyS_z : HyS z6 := ⟨by decide, by decide⟩
theorem HyA.sp {l : List Nd} {n : Int} {T : List Tk} {h : Int} (a : HyA (l, n, T, h)) (g u : Int) : HyS (spR l n T h g u).1 := by
 have h1 := a.l
 have h2 := a.t
 simp only at h1 h2
 unfold spR adR
 repeat' split
 all_goals first
   | exact HyS_z
   | exact ⟨by simp only; omega, by simp only [snoc_len]; omega⟩
theorem HyA.cl {l : List Nd} {n : Int} {T : List Tk} {h : Int} (a : HyA (l, n, T, h)) (t : Int) : HyS (clR l n T h t).1 := by
 have h1 := a.l
 have h2 := a.t
 simp only at h1 h2
 unfold clR adR
 repeat' split
 all_goals first
   | exact HyS_z
   | exact ⟨by simp only; omega, by simp only [snoc_len]; omega⟩
theorem HyA.ex {l : List Nd} {n : Int} {T : List Tk} {h : Int} (a : HyA (l, n, T, h)) (t : Int) : HyS (exR l n T h t).1 := by
 have h1 := a.l
 have h2 := a.t
 simp only at h1 h2
 unfold exR
 repeat' split
 all_goals first
   | exact HyS_z
   | exact ⟨by simp only; omega, by simp only; exact Nat.le_trans (List.length_filter_le _ _) (by omega)⟩
theorem HyA.pl {l : List Nd} {n : Int} {T : List Tk} {h : Int} (a : HyA (l, n, T, h)) (t g : Int) : HyS (plR l n T h t g).1 := by
 have h1 := a.l
 have h2 := a.t
 simp only at h1 h2
 unfold plR
 repeat' split
 all_goals first
   | exact HyS_z
   | exact ⟨by simp only; omega, by simp only [List.length_map]; omega⟩
theorem rm_len (l : List Nd) (n g : Int) : (rmM l n g).1.1.length ≤ l.length := by
 unfold rmM
 repeat' split
 all_goals first
   | exact rmN_len l g
   | exact Nat.zero_le _
theorem HyA.rv {l : List Nd} {n : Int} {T : List Tk} {h : Int} (a : HyA (l, n, T, h)) (g : Int) : HyS (rvM6 l n T h g).1 := by
 have h1 := a.l
 have h2 := a.t
 have h3 := rm_len l n g
 simp only at h1 h2
 unfold rvM6
 repeat' split
 all_goals first
   | exact HyS_z
   | exact ⟨by simp only; omega, by simp only; omega⟩
def lendC : FuncId → List Nat := fun f => if f = 42 then [0] else if f = 14 then [0] else if f = 13 then [0] else if f = 9 then [0] else if f = 10 then [0] else if f = 31 then [0] else []
set_option maxHeartbeats 8000000 in
theorem changes6_spec (D : List Int) (hr : ∀ x ∈ D, -9223372036854775808 ≤ x ∧ x ≤ 9223372036854775807) (user : Int) : FnSpec Tryz.prog 4 [gi D none, i1 user] [] (b1 true) [] := by
 by_cases hlen : (D.length : Int) ≤ 600
 case neg =>
   (try rw [if_neg hlen])
   refine fnspec_of mixed TT_ok TT_cl ⟨fun _ => false, lendC, 0, fun _ => false, fun _ => false⟩ Tryz.func4 rfl (by kernel_rfl) rfl 185 rfl [.tmp 4] rfl ?_
   simp only [go_sem, zaa, zaq, zar, zas, zav, zah, ↓reduceIte, reduceCtorEq, zab, zac, zaw, zax, zay, lendC, dice, decide_eq_false hlen, zak, zam, zad, zan, zap, zai, zaj, zaf, zau, zaz, zag, zae]
   repeat' (first
 | (apply cl_plain
    case hs => rfl
    case ha => exact yic
    case h => (first | exact light_spec .. | exact sane6_spec ..))
 | ((first | refine s1_id ?_ | refine swp_id ?_ | refine sops_id ?_ | refine s2_id ?_); simp only [lendC, dice, decide_eq_false hlen, zak, zam, zad, zan, zap, zai, zaj, zaf, zau, zaz, zag, zae, go_sem, zaa, zaq, zar, zas, zav, zah, ↓reduceIte, reduceCtorEq, zab, zac, zaw, zax, zay, zaP, zaN, zaJ, zaK, renO, bk, back, outUpsFrom, Ints_ren])
 | exact fs_nil trivial rfl
 | fail)
 (try rw [if_pos hlen])
 have hl : D.length ≤ 600 := by omega
 have hs := hier_spec D hl hr 0 6 8 (by decide) (by decide)
 have hq := mkH_ok D 0 6 8
 generalize mkH D 0 6 8 = H at *
 obtain ⟨⟨l, n, T, h⟩, j⟩ := H
 simp only at hs hq
 have ho := oddh6_spec D hl hr j l n T h hq.len.1 (by have := hq.len.2; simp only at this; omega) (by have := hq.p.le; simp only at this; omega)
 have ha := hq.a
 have hoa := oh_a D j hq
 generalize ohM D j (l, n, T, h) = O at *
 obtain ⟨⟨ol, on, oT, oh⟩, jo⟩ := O
 simp only at ho hoa
 obtain ⟨Q, hQc, hQl, hQa⟩ : ∃ Q : List Hy, Cs Q = [.gsl (Cs l) 0 l.length none, int n, .gsl (Cs T) 0 T.length none, int h, .gsl (Cs ol) 0 ol.length none, int on, .gsl (Cs oT) 0 oT.length none, int oh] ∧ Q.length = 2 ∧ ∀ q ∈ Q, HyA q := by
   refine ⟨[(l, n, T, h), (ol, on, oT, oh)], rfl, rfl, fun q hq => ?_⟩
   simp only [List.mem_cons, zaD, or_false] at hq
   rcases hq with rfl | rfl
   · exact ha
   · exact hoa
 have hQn := hyr_len Q
 refine fnspec_of mixed TT_ok TT_cl ⟨fun _ => false, lendC, 0, fun _ => false, fun _ => false⟩ Tryz.func4 rfl (by kernel_rfl) rfl 185 rfl [.tmp 4] rfl ?_
 simp only [go_sem, zaa, zaq, zar, zas, zav, zah, ↓reduceIte, reduceCtorEq, zab, zac, zaw, zax, zay, lendC, dice, decide_eq_true hlen, zak, zam, zad, zan, zap, zai, zaj, zaf, zau, zaz, zag, zae]
 repeat' (first
 | with_reducible refine zaB ?_ ?_
 | (unfold OKC; kernel_rfl)
 | (unfold EDG; kernel_rfl)
 | (apply cl_plain
    case hs => rfl
    case ha => exact yic
    case h => (first | exact light_spec .. | exact roll_spec .. | exact hs .. | exact ho ..))
 | (apply cl_lend
    case hr => exact yie
    case ha => exact yic
    case hs => rfl
    case hn => decide
    case h => (first | exact light_spec .. | exact roll_spec .. | exact hs .. | exact ho ..)
    case hf => exact yid
    case hl => exact yih)
 | ((first | refine s1_id ?_ | refine swp_id ?_ | refine sops_id ?_ | refine s2_id ?_); simp only [lendC, dice, decide_eq_true hlen, zak, zam, zad, zan, zap, zai, zaj, zaf, zau, zaz, zag, zae, go_sem, zaa, zaq, zar, zas, zav, zah, ↓reduceIte, reduceCtorEq, zab, zac, zaw, zax, zay, zaP, zaN, zaJ, zaK, renO, bk, back, outUpsFrom, Ints_ren])
 | exact yib | fail)
 refine w_loop (ι := Nat × Nat) (fun s => ⟨[(1, i1 user), (5, .one (.optr 0 0)), (37, .one (.osl 1 0 2 (some 2))), (38, i1 Q.length), (39, i1 s.1)], [(0, some (dice D s.2)), (1, some ⟨Cs Q, 4⟩)], 2⟩) (fun s => s.1 ≤ Q.length) (fun s => Q.length - s.1) (0, jo) ?_ (Nat.zero_le _) ?_
 · simp only [hQc, hQl]
   (refine imp_ren _ _ _ [(0, 5, dice D jo), (1, 15, ⟨[.gsl (Cs l) 0 l.length none, int n, .gsl (Cs T) 0 T.length none, int h, .gsl (Cs ol) 0 ol.length none, int on, .gsl (Cs oT) 0 oT.length none, int oh], 4⟩)] (by simp) (by simp) (by simp) (zaF rfl) ?_ rfl (by simp only [zat, zaD, false_implies, implies_true, and_true, zaW, lookR, zaa, if_true, if_false, ↓reduceIte, dice, Cs_flat] <;> (repeat' apply zaB) <;> (first | rfl | trivial)) (by simp only [zat, zaD, false_implies, implies_true, and_true, true_and, flat_cons, flat_nil, flat_ints, flat_bools, flat_app, zaS, and_self, eq_self_iff_true, zad, dice, Cs_flat]); simp only [zal, zao, zat, zaD, false_implies, implies_true, and_true, lk, slot, zaP, zaJ, toN, zaa, if_true, if_false, ↓reduceIte, reduceCtorEq])
   all_goals ((repeat' apply zaB) <;> (first | rfl | trivial))
 clear hs ho
 rintro ⟨m, j⟩ hm
 simp only at hm ⊢
 rcases Nat.lt_or_ge m Q.length with hlt | hge
 case inr =>
   have c : ¬ (m : Int) < (Q.length : Int) := by omega
   simp only [go_sem, zaa, zaq, zar, zas, zav, zah, ↓reduceIte, reduceCtorEq, zab, zac, zaw, zax, zay, lendC, dice, decide_eq_true hlen, decide_eq_false c, zak, zam, zad, zan, zap, zai, zaj, zaf, zau, zaz, zag, zae]
   repeat' (first
 | (apply cl_plain
    case hs => rfl
    case ha => exact yic
    case h => (first | exact sane6_spec ..))
 | ((first | refine s1_id ?_ | refine swp_id ?_ | refine sops_id ?_ | refine s2_id ?_); simp only [lendC, dice, decide_eq_true hlen, decide_eq_false c, zak, zam, zad, zan, zap, zai, zaj, zaf, zau, zaz, zag, zae, go_sem, zaa, zaq, zar, zas, zav, zah, ↓reduceIte, reduceCtorEq, zab, zac, zaw, zax, zay, zaP, zaN, zaJ, zaK, renO, bk, back, outUpsFrom, Ints_ren])
 | exact fs_nil trivial rfl
 | fail)
 have c : (m : Int) < (Q.length : Int) := by omega
 have hat := hy_td Q m hlt
 have hxa := hQa _ (getD_mem Q m z6 hlt)
 have hm2 : (m : Int) < 2 := by omega
 generalize Q.getD m z6 = x at *
 obtain ⟨xl, xn, xT, xh⟩ := x
 simp only at hat
 have hbl := hxa.l
 have hbT := hxa.t
 have hnm := hxa.nm
 have hct := hxa.ct
 simp only at hbl hbT hnm hct
 have g1 := dgroup2_spec D hl hr j xl xn (by omega)
 generalize dgV2 D xl j = g at *
 generalize dgA2 D xl j = j1 at *
 have k1 := dtask_spec D hl hr j1 xl xn xT xh (by omega)
 generalize dtV D xT j1 = k at *
 generalize dtA D xT j1 = j2 at *
 have u1 := usr_spec D j2 hl hr
 generalize usV D j2 = us at *
 generalize nxA D j2 8 = j3 at *
 simp only [go_sem, zaa, zaq, zar, zas, zav, zah, ↓reduceIte, reduceCtorEq, zab, zac, zaw, zax, zay, lendC, dice, decide_eq_true hlen, decide_eq_true c, hat, decide_eq_true hm2, zak, zam, zad, zan, zap, zai, zaj, zaf, zau, zaz, zag, zae]
 repeat' (first
 | with_reducible refine zaB ?_ ?_
 | (unfold OKC; kernel_rfl)
 | (unfold EDG; kernel_rfl)
 | (apply cl_lend
    case hr => exact yie
    case ha => exact yic
    case hs => rfl
    case hn => decide
    case h => (first | exact g1 .. | exact k1 .. | exact u1 ..)
    case hf => exact yid
    case hl => exact yih)
 | ((first | refine s1_id ?_ | refine swp_id ?_ | refine sops_id ?_ | refine s2_id ?_); simp only [lendC, dice, decide_eq_true hlen, decide_eq_true c, hat, decide_eq_true hm2, zak, zam, zad, zan, zap, zai, zaj, zaf, zau, zaz, zag, zae, go_sem, zaa, zaq, zar, zas, zav, zah, ↓reduceIte, reduceCtorEq, zab, zac, zaw, zax, zay, zaP, zaN, zaJ, zaK, renO, bk, back, outUpsFrom, Ints_ren])
 | (intros; omega)
 | exact yib | fail)
 obtain ⟨U, hU, hUl⟩ : ∃ U, [user, us] = U ∧ U.length = 2 := ⟨_, rfl, rfl⟩
 simp only [hU]
 refine w_loop (ι := Nat) (fun a => ⟨[(1, i1 user), (5, .one (.optr 0 0)), (8, .one (.optr 1 0)), (9, i1 g), (10, i1 k), (37, .one (.osl 2 0 2 (some 2))), (38, i1 Q.length), (39, i1 m), (53, .one (.osl 3 0 2 (some 2))), (54, i1 U.length), (55, i1 a)], [(0, some (dice D j3)), (1, some ⟨hyc xl none xn xT none xh, 4⟩), (2, some ⟨Cs Q, 4⟩), (3, some ⟨Ints U, 1⟩)], 4⟩) (fun a => a ≤ U.length) (fun a => U.length - a) 0 ?_ (Nat.zero_le _) ?_
 · simp only [hUl]
   (refine imp_ren _ _ _ [(0, 0, dice D j3), (1, 5, ⟨hyc xl none xn xT none xh, 4⟩), (2, 1, ⟨Cs Q, 4⟩), (3, 19, ⟨Ints U, 1⟩)] (by simp) (by simp) (by simp) (zaF rfl) ?_ rfl (by simp only [zat, zaD, false_implies, implies_true, and_true, zaW, lookR, zaa, if_true, if_false, ↓reduceIte, dice, Cs_flat] <;> (repeat' apply zaB) <;> (first | rfl | trivial)) (by simp only [zat, zaD, false_implies, implies_true, and_true, true_and, flat_cons, flat_nil, flat_ints, flat_bools, flat_app, zaS, and_self, eq_self_iff_true, zad, dice, Cs_flat]); simp only [zal, zao, zat, zaD, false_implies, implies_true, and_true, lk, slot, zaP, zaJ, toN, zaa, if_true, if_false, ↓reduceIte, reduceCtorEq])
   all_goals ((repeat' apply zaB) <;> (first | rfl | trivial))
 clear g1 k1 u1
 rintro a hm2
 simp only at hm2 ⊢
 rcases Nat.lt_or_ge a U.length with hlt2 | hge2
 case inr =>
   have c2 : ¬ (a : Int) < (U.length : Int) := by omega
   have cn1 := mclone_spec xl xn xT xh k (by omega) (by omega) hnm hct
   have cn2 := rclone6_spec xl xn xT xh k (by omega) (by omega) hnm
   have cn3 := HyA.cl hxa k
   generalize clR xl xn xT xh k = Sc at *
   obtain ⟨⟨cl, cn, cT, ch⟩, ci, ce⟩ := Sc
   simp only at cn1 cn2
   have cn4 := hsame6_spec cl cn cT ch cn3.l cn3.t
   have e1 := mexit_spec xl xn xT xh k (by omega) (by omega) hnm hct
   have e2 := rexit6_spec xl xn xT xh k (by omega) (by omega) hnm
   have e3 := HyA.ex hxa k
   generalize exR xl xn xT xh k = Se at *
   obtain ⟨⟨el, en, eT, eh⟩, ee⟩ := Se
   simp only at e1 e2
   have e4 := hsame6_spec el en eT eh e3.l e3.t
   have p1 := mplace_spec xl xn xT xh k g (by omega) (by omega) hnm hct
   have p2 := rplace6_spec xl xn xT xh k g (by omega) (by omega) hnm
   have p3 := HyA.pl hxa k g
   generalize plR xl xn xT xh k g = Sp at *
   obtain ⟨⟨pl, pn, pT, ph⟩, pe⟩ := Sp
   simp only at p1 p2
   have p4 := hsame6_spec pl pn pT ph p3.l p3.t
   have r1 := mrem_spec xl xn xT xh g (by omega) (by omega) hnm hct
   have r2 := rrem6_spec xl xn xT xh g (by omega) (by omega) hnm
   have r3 := HyA.rv hxa g
   generalize rvM6 xl xn xT xh g = Sr at *
   obtain ⟨⟨rl, rn, rT, rh⟩, re⟩ := Sr
   simp only at r1 r2
   have r4 := hsame6_spec rl rn rT rh r3.l r3.t
   simp only [go_sem, zaa, zaq, zar, zas, zav, zah, ↓reduceIte, reduceCtorEq, zab, zac, zaw, zax, zay, lendC, dice, decide_eq_true hlen, decide_eq_true c, hat, decide_eq_true hm2, eq_self, decide_true, decide_eq_false c2, zak, zam, zad, zan, zap, zai, zaj, zaf, zau, zaz, zag, zae]
   repeat' (first
 | with_reducible refine zaB ?_ ?_
 | (apply cg_tp
    case hl => rfl
    case ha => exact yic
    case hs => rfl
    case h => exact yif)
 | (apply cl_plain
    case hs => rfl
    case ha => exact yic
    case h => exact yif)
 | ((first | refine s1_id ?_ | refine swp_id ?_ | refine sops_id ?_ | refine s2_id ?_); simp only [lendC, dice, decide_eq_true hlen, decide_eq_true c, hat, decide_eq_true hm2, eq_self, decide_true, decide_eq_false c2, zak, zam, zad, zan, zap, zai, zaj, zaf, zau, zaz, zag, zae, go_sem, zaa, zaq, zar, zas, zav, zah, ↓reduceIte, reduceCtorEq, zab, zac, zaw, zax, zay, zaP, zaN, zaJ, zaK, renO, bk, back, outUpsFrom, Ints_ren])
 | (intros; omega)
 | exact yib | fail)
   refine le_mk (m + 1, j3) ?_ hlt (by show Q.length - (m + 1) < Q.length - m; omega)
   (refine imp_ren _ _ _ [(0, 0, dice D j3), (1, 2, ⟨Cs Q, 4⟩)] (by simp) (by simp) (by simp) (zaF rfl) ?_ rfl (by simp only [zat, zaD, false_implies, implies_true, and_true, zaW, lookR, zaa, if_true, if_false, ↓reduceIte, dice, Cs_flat] <;> (repeat' apply zaB) <;> (first | rfl | trivial)) (by simp only [zat, zaD, false_implies, implies_true, and_true, true_and, flat_cons, flat_nil, flat_ints, flat_bools, flat_app, zaS, and_self, eq_self_iff_true, zad, dice, Cs_flat]); simp only [zal, zao, zat, zaD, false_implies, implies_true, and_true, lk, slot, zaP, zaJ, toN, zaa, if_true, if_false, ↓reduceIte, reduceCtorEq])
   all_goals ((repeat' apply zaB) <;> (first | rfl | trivial | (simp only [zaU]; done) | (simp only [zaU]; rfl) | (simp only [zaU]; trivial)))
 have c2 : (a : Int) < (U.length : Int) := by omega
 have ha2 : (a : Int) < 2 := by omega
 have s1 := mspawn_spec xl xn xT xh g (U.getD a 0) (by omega) (by omega) hnm hct
 have s2 := rspawn6_spec xl xn xT xh g (U.getD a 0) (by omega) (by omega) hnm
 have s3 := HyA.sp hxa g (U.getD a 0)
 generalize spR xl xn xT xh g (U.getD a 0) = S at *
 obtain ⟨⟨sl, sn, sT, sh⟩, si, se⟩ := S
 simp only at s1 s2
 have s4 := hsame6_spec sl sn sT sh s3.l s3.t
 simp only [go_sem, zaa, zaq, zar, zas, zav, zah, ↓reduceIte, reduceCtorEq, zab, zac, zaw, zax, zay, lendC, dice, decide_eq_true hlen, decide_eq_true c, hat, decide_eq_true hm2, eq_self, decide_true, decide_eq_true c2, decide_eq_true ha2, zak, zam, zad, zan, zap, zai, zaj, zaf, zau, zaz, zag, zae]
 repeat' (first
 | with_reducible refine zaB ?_ ?_
 | (apply cg_tp
    case hl => rfl
    case ha => exact yic
    case hs => rfl
    case h => (first | exact s1 .. | exact s2 .. | exact s4 ..))
 | (apply cl_plain
    case hs => rfl
    case ha => exact yic
    case h => (first | exact s1 .. | exact s2 .. | exact s4 ..))
 | ((first | refine s1_id ?_ | refine swp_id ?_ | refine sops_id ?_ | refine s2_id ?_); simp only [lendC, dice, decide_eq_true hlen, decide_eq_true c, hat, decide_eq_true hm2, eq_self, decide_true, decide_eq_true c2, decide_eq_true ha2, zak, zam, zad, zan, zap, zai, zaj, zaf, zau, zaz, zag, zae, go_sem, zaa, zaq, zar, zas, zav, zah, ↓reduceIte, reduceCtorEq, zab, zac, zaw, zax, zay, zaP, zaN, zaJ, zaK, renO, bk, back, outUpsFrom, Ints_ren])
 | (intros; omega)
 | exact yib | fail)
 refine le_mk (a + 1) ?_ hlt2 (by show U.length - (a + 1) < U.length - a; omega)
 (refine imp_ren _ _ _ [(0, 0, dice D j3), (1, 1, ⟨hyc xl none xn xT none xh, 4⟩), (2, 2, ⟨Cs Q, 4⟩), (3, 3, ⟨Ints U, 1⟩)] (by simp) (by simp) (by simp) (zaF rfl) ?_ rfl (by simp only [zat, zaD, false_implies, implies_true, and_true, zaW, lookR, zaa, if_true, if_false, ↓reduceIte, dice, Cs_flat] <;> (repeat' apply zaB) <;> (first | rfl | trivial)) (by simp only [zat, zaD, false_implies, implies_true, and_true, true_and, flat_cons, flat_nil, flat_ints, flat_bools, flat_app, zaS, and_self, eq_self_iff_true, zad, dice, Cs_flat]); simp only [zal, zao, zat, zaD, false_implies, implies_true, and_true, lk, slot, zaP, zaJ, toN, zaa, if_true, if_false, ↓reduceIte, reduceCtorEq])
 all_goals ((repeat' apply zaB) <;> (first | rfl | trivial | (simp only [zaU]; done) | (simp only [zaU]; rfl) | (simp only [zaU]; trivial)))
theorem changes6_main (g0 : List Cell) (s0 : GTy Tryz.prog 12 22 g0) (g1 : List Cell) (s1 : GTy Tryz.prog 12 3 g1) : FnSpec Tryz.prog 4 [svOf Tryz.prog 22 g0, svOf Tryz.prog 3 g1] [] (b1 true) [] := by
 obtain ⟨l0, rfl, hl0, hr0⟩ := gty_ints (n := 10) Tryz.underlying22 Tryz.underlying3 s0
 obtain ⟨m1, rfl, _⟩ := gty_int (n := 11) Tryz.underlying3 s1
 simp only [svOf, Tryz.underlying22, Tryz.underlying3, List.headD_cons]
 exact changes6_spec l0 hr0 m1
end Go.Proofs.YtnahpejlhfeleabGreat
