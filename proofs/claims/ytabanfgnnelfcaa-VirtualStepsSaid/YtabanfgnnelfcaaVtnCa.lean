/- Contracts of functions, told of values, on the way to VirtualSteps. -/
import Derived.Test.YtabanfgnnelfcaaTyCa
import Derived.Test.YtabanfgnnelfcaaVtfCa
-- NEWGO
-- PRUNE: cl_lendx cl_lend
-- ISG: Its_isG
namespace Go.Proofs.Ytabanfgnnelfcaa
set_option linter.unusedVariables false
set_option linter.unusedSimpArgs false
open Go.Proofs.Ytabanfgnnelfcaa.Sh
set_option maxRecDepth 20000
def flt (id : Int) (l : List It) (i : Nat) : List It := (l.take i).filter (fun x => !decide (x.i = id))
theorem flt_zero (id : Int) (l : List It) : flt id l 0 = [] := by simp [flt]
theorem take_up (l : List It) (i : Nat) (h : i < l.length) : l.take (i + 1) = l.take i ++ [l.getD i zi] := by
  rw [List.take_succ_eq_append_getElem h, List.getD_eq_getElem?_getD, List.getElem?_eq_getElem h, Option.getD_some]
theorem flt_yes (id : Int) (l : List It) (i : Nat) (h : i < l.length) (hid : ¬ (l.getD i zi).i = id) : flt id l (i + 1) = flt id l i ++ [l.getD i zi] := by
  unfold flt
  rw [take_up l i h, List.filter_append]
  congr 1
  simp only [List.filter_cons, List.filter_nil, decide_eq_false hid, Bool.not_false, if_true]
theorem flt_no (id : Int) (l : List It) (i : Nat) (h : i < l.length) (hid : (l.getD i zi).i = id) : flt id l (i + 1) = flt id l i := by
  unfold flt
  rw [take_up l i h, List.filter_append]
  simp only [List.filter_cons, List.filter_nil, decide_eq_true hid, Bool.not_true, Bool.false_eq_true, if_false, List.append_nil]
theorem flt_len (id : Int) (l : List It) (i : Nat) : (flt id l i).length ≤ l.length := by
  unfold flt
  exact Nat.le_trans (List.length_filter_le _ _) (by rw [List.length_take]; omega)
theorem flt_del {c : Int} {l : List It} {id : Int} (hq : qck c l = true) (hF : bsF l id = true) : flt id l l.length = del l (bsV l id) := by
  obtain ⟨hk, hid⟩ := bsF_lt hF
  have hs := qck_srt hq
  generalize bsV l id = k at *
  have e : l = l.take k ++ ([l.getD k zi] ++ l.drop (k + 1)) := by
    rw [← List.append_assoc, ← take_up l k hk, List.take_append_drop]
  have h1 : (l.take k).filter (fun x => !decide (x.i = id)) = l.take k := by
    rw [List.filter_eq_self]
    intro x hx
    obtain ⟨i, hi, rfl⟩ := List.mem_iff_getElem.1 hx
    rw [List.length_take] at hi
    have := hs i k (by omega) hk
    rw [List.getElem_take]
    rw [List.getD_eq_getElem?_getD, List.getElem?_eq_getElem (show i < l.length by omega), Option.getD_some] at this
    have hne : ¬ l[i].i = id := by omega
    rw [decide_eq_false hne]; rfl
  have h2 : (l.drop (k + 1)).filter (fun x => !decide (x.i = id)) = l.drop (k + 1) := by
    rw [List.filter_eq_self]
    intro x hx
    obtain ⟨i, hi, rfl⟩ := List.mem_iff_getElem.1 hx
    rw [List.length_drop] at hi
    have := hs k (k + 1 + i) (by omega) (by omega)
    rw [List.getElem_drop]
    rw [List.getD_eq_getElem?_getD (i := k + 1 + i), List.getElem?_eq_getElem (show k + 1 + i < l.length by omega), Option.getD_some] at this
    have hne : ¬ l[k + 1 + i].i = id := by omega
    rw [decide_eq_false hne]; rfl
  unfold flt del
  rw [List.take_length]
  conv => lhs; rw [e]
  rw [List.filter_append, List.filter_append, h1, h2]
  simp only [List.filter_cons, List.filter_nil, decide_eq_true hid, Bool.not_true, Bool.false_eq_true, if_false, List.nil_append]
def drSt (c : Int) (l : List It) (cap : Option Nat) (id : Int) (i : Nat) : St :=
  if flt id l i = [] then ⟨[(1, i1 id), (2, .one (.optr 0 0)), (4, .one (.optr 1 0)), (8, .one (.optr 2 0)), (9, i1 i)], [(0, some ⟨[int c, .gsl (Its l) 0 l.length cap], 2⟩), (1, some ⟨[int 0, .sc (.slice none 0 0)], 2⟩), (2, some ⟨[int c, .sc (.slice none 0 0)], 2⟩)], 3⟩
  else ⟨[(1, i1 id), (2, .one (.optr 0 0)), (4, .one (.optr 1 0)), (8, .one (.optr 2 0)), (9, i1 i)], [(0, some ⟨[int c, .gsl (Its l) 0 l.length cap], 2⟩), (1, some ⟨[int 0, .sc (.slice none 0 0)], 2⟩), (2, some ⟨[int c, .osl 3 0 (flt id l i).length none], 2⟩), (3, some ⟨Its (flt id l i), 4⟩)], 4⟩
set_option maxHeartbeats 4000000 in
theorem rdrop_spec (c : Int) (l : List It) (cap : Option Nat) (id : Int) (hl : l.length ≤ 4611686018427387904) : FnSpec Try.prog 32 [gqc c l cap, i1 id] [] (rq (vDrop c l id)) [] := by
  have hx := rfd_spec c l cap id hl
  unfold rfd at hx
  unfold vDrop
  cases hq : qck c l with
  | false =>
    rw [hq, if_neg Bool.false_ne_true] at hx
    rw [if_neg Bool.false_ne_true]
    refine fnspec_of mixed TT_ok TT_cl ⟨fun _ => false, fun _ => [], 0, fun _ => false, fun _ => false⟩ Try.func32 rfl (by kernel_rfl) rfl 50 rfl [.cell 4 29, .tmp 5] rfl ?_
    simp only [go_sem, Nat.reduceEqDiff, Nat.reduceAdd, Nat.reduceSub, Nat.reduceMul, Nat.reduceLT, Nat.reduceLeDiff, ↓reduceIte, reduceCtorEq, List.reduceReplicate, Int.cast_ofNat_Int, Int.reduceEq, Int.reduceLT, Int.reduceLE]
    repeat' (first
    | (apply cl_plain
       case hs => rfl
       case ha => (simp only [List.map_cons, List.map_nil, prepV, prepC, idx, hpL', lookR, Nat.reduceEqDiff, if_true, if_false]; rfl)
       case h => (first | exact hx ..))
    | ((first | refine s1_id ?_ | refine swp_id ?_ | refine sops_id ?_ | refine s2_id ?_); simp only [go_sem, Nat.reduceEqDiff, Nat.reduceAdd, Nat.reduceSub, Nat.reduceMul, Nat.reduceLT, Nat.reduceLeDiff, ↓reduceIte, reduceCtorEq, List.reduceReplicate, Int.cast_ofNat_Int, Int.reduceEq, Int.reduceLT, Int.reduceLE, SV.ren, SV.renL, Cell.ren, Row.ren, renO, bk, back, outUpsFrom, Ints_ren]))
    (refine fs_w (by simp only [go_sem, resV, resS, SV.ren, SV.renL, Cell.ren, St.tmF, St.hpF, idx, renO, Row.ren, evS, slot, lookR, Nat.reduceEqDiff, ↓reduceIte, reduceCtorEq, if_true, if_false, Option.getD_some, Option.getD_none, List.map_cons, List.map_nil, sLoad, readAt, readNeed, Ints_ren, Ints_length, Ints_getD, and_true, true_and, List.getD_cons_zero, List.getD_cons_succ]; try trivial) ?_; simp only [go_sem, resV, resS, SV.ren, SV.renL, Cell.ren, St.tmF, St.hpF, idx, renO, Row.ren, evS, slot, lookR, Nat.reduceEqDiff, ↓reduceIte, reduceCtorEq, if_true, if_false, Option.getD_some, Option.getD_none, List.map_cons, List.map_nil, sLoad, readAt, readNeed, Ints_ren, Ints_length, Ints_getD, and_true, true_and, List.getD_cons_zero, List.getD_cons_succ]; refine svw_of ?_; simp only [sw_tup, swl_cons, swl_nil, sw_one, sw_agg, cwl_cons, cwl_nil, cw_id, cw_nil0, cw_cap0, List.length_nil, and_true, true_and, and_self] <;> (try ((repeat' with_reducible apply And.intro) <;> (first | with_reducible trivial | exact cw_rfl _ | exact cw_gnil | exact cw_niln _ _ | exact cw_cap _ _ _ _ | (refine cw_eq ?_; congr; done)))))
  | true =>
    rw [hq, if_pos rfl] at hx
    rw [if_pos rfl]
    cases hF : bsF l id with
    | false =>
      rw [hF, if_neg Bool.false_ne_true] at hx
      rw [if_neg Bool.false_ne_true]
      refine fnspec_of mixed TT_ok TT_cl ⟨fun _ => false, fun _ => [], 0, fun _ => false, fun _ => false⟩ Try.func32 rfl (by kernel_rfl) rfl 50 rfl [.cell 4 29, .tmp 5] rfl ?_
      simp only [go_sem, Nat.reduceEqDiff, Nat.reduceAdd, Nat.reduceSub, Nat.reduceMul, Nat.reduceLT, Nat.reduceLeDiff, ↓reduceIte, reduceCtorEq, List.reduceReplicate, Int.cast_ofNat_Int, Int.reduceEq, Int.reduceLT, Int.reduceLE]
      repeat' (first
    | (apply cl_plain
       case hs => rfl
       case ha => (simp only [List.map_cons, List.map_nil, prepV, prepC, idx, hpL', lookR, Nat.reduceEqDiff, if_true, if_false]; rfl)
       case h => (first | exact hx ..))
    | ((first | refine s1_id ?_ | refine swp_id ?_ | refine sops_id ?_ | refine s2_id ?_); simp only [go_sem, Nat.reduceEqDiff, Nat.reduceAdd, Nat.reduceSub, Nat.reduceMul, Nat.reduceLT, Nat.reduceLeDiff, ↓reduceIte, reduceCtorEq, List.reduceReplicate, Int.cast_ofNat_Int, Int.reduceEq, Int.reduceLT, Int.reduceLE, SV.ren, SV.renL, Cell.ren, Row.ren, renO, bk, back, outUpsFrom, Ints_ren]))
      (refine fs_w (by simp only [go_sem, resV, resS, SV.ren, SV.renL, Cell.ren, St.tmF, St.hpF, idx, renO, Row.ren, evS, slot, lookR, Nat.reduceEqDiff, ↓reduceIte, reduceCtorEq, if_true, if_false, Option.getD_some, Option.getD_none, List.map_cons, List.map_nil, sLoad, readAt, readNeed, Ints_ren, Ints_length, Ints_getD, and_true, true_and, List.getD_cons_zero, List.getD_cons_succ]; try trivial) ?_; simp only [go_sem, resV, resS, SV.ren, SV.renL, Cell.ren, St.tmF, St.hpF, idx, renO, Row.ren, evS, slot, lookR, Nat.reduceEqDiff, ↓reduceIte, reduceCtorEq, if_true, if_false, Option.getD_some, Option.getD_none, List.map_cons, List.map_nil, sLoad, readAt, readNeed, Ints_ren, Ints_length, Ints_getD, and_true, true_and, List.getD_cons_zero, List.getD_cons_succ]; refine svw_of ?_; simp only [sw_tup, swl_cons, swl_nil, sw_one, sw_agg, cwl_cons, cwl_nil, cw_id, cw_nil0, cw_cap0, List.length_nil, and_true, true_and, and_self] <;> (try ((repeat' with_reducible apply And.intro) <;> (first | with_reducible trivial | exact cw_rfl _ | exact cw_gnil | exact cw_niln _ _ | exact cw_cap _ _ _ _ | (refine cw_eq ?_; congr; done)))))
    | true =>
      rw [hF, if_pos rfl] at hx
      rw [if_pos rfl]
      have hqi := qck_iff hq
      have hfd := flt_del hq hF
      have hil := Its_len l
      rw [← hfd]
      generalize l.getD (bsV l id) zi = x at *
      clear hfd hF
      refine fnspec_of mixed TT_ok TT_cl ⟨fun _ => false, fun _ => [], 0, fun _ => false, fun _ => false⟩ Try.func32 rfl (by kernel_rfl) rfl 50 rfl [.cell 4 29, .tmp 5] rfl ?_
      simp only [go_sem, Nat.reduceEqDiff, Nat.reduceAdd, Nat.reduceSub, Nat.reduceMul, Nat.reduceLT, Nat.reduceLeDiff, ↓reduceIte, reduceCtorEq, List.reduceReplicate, Int.cast_ofNat_Int, Int.reduceEq, Int.reduceLT, Int.reduceLE]
      repeat' (first
    | (apply cl_plain
       case hs => rfl
       case ha => (simp only [List.map_cons, List.map_nil, prepV, prepC, idx, hpL', lookR, Nat.reduceEqDiff, if_true, if_false]; rfl)
       case h => (first | exact hx ..))
    | ((first | refine s1_id ?_ | refine swp_id ?_ | refine sops_id ?_ | refine s2_id ?_); simp only [go_sem, Nat.reduceEqDiff, Nat.reduceAdd, Nat.reduceSub, Nat.reduceMul, Nat.reduceLT, Nat.reduceLeDiff, ↓reduceIte, reduceCtorEq, List.reduceReplicate, Int.cast_ofNat_Int, Int.reduceEq, Int.reduceLT, Int.reduceLE, SV.ren, SV.renL, Cell.ren, Row.ren, renO, bk, back, outUpsFrom, Ints_ren]))
      refine w_loop (ι := Nat) (drSt c l cap id) (fun i => i ≤ l.length) (fun i => l.length - i) 0 ?_ (Nat.zero_le _) ?_
      · have e : drSt c l cap id 0 = ⟨[(1, i1 id), (2, .one (.optr 0 0)), (4, .one (.optr 1 0)), (8, .one (.optr 2 0)), (9, i1 (0 : Nat))], [(0, some ⟨[int c, .gsl (Its l) 0 l.length cap], 2⟩), (1, some ⟨[int 0, .sc (.slice none 0 0)], 2⟩), (2, some ⟨[int c, .sc (.slice none 0 0)], 2⟩)], 3⟩ := by unfold drSt; rw [if_pos (flt_zero id l)]
        rw [e]
        (refine imp_ren _ _ _ [(0, 0, ⟨[int c, .gsl (Its l) 0 l.length cap], 2⟩), (1, 1, ⟨[int 0, .sc (.slice none 0 0)], 2⟩), (2, 17, ⟨[int c, .sc (.slice none 0 0)], 2⟩)] (by simp) (by simp) (by simp) (Nat.le_of_ble_eq_true rfl) ?_ rfl (by simp only [List.forall_mem_cons, List.not_mem_nil, false_implies, implies_true, and_true, St.hpF, lookR, Nat.reduceEqDiff, if_true, if_false, ↓reduceIte] <;> (repeat' apply And.intro) <;> (first | rfl | trivial)) (by simp only [List.forall_mem_cons, List.not_mem_nil, false_implies, implies_true, and_true, true_and, flat_cons, flat_nil, flat_ints, flat_bools, flat_app, Cell.refs, and_self, eq_self_iff_true, List.append_nil]); simp only [List.map_cons, List.map_nil, List.forall_mem_cons, List.not_mem_nil, false_implies, implies_true, and_true, lk, slot, SV.ren, Cell.ren, toN, Nat.reduceEqDiff, if_true, if_false, ↓reduceIte, reduceCtorEq])
        all_goals ((repeat' apply And.intro) <;> (first | rfl | trivial))
      clear hx
      intro i hi
      simp only at hi ⊢
      have hfl := flt_len id l i
      have hDl := Its_len (flt id l i)
      rcases Nat.lt_or_ge i l.length with hlt | hge
      case inr =>
        have hlt' : ¬ (i : Int) < (l.length : Int) := by omega
        have e : i = l.length := by omega
        subst e
        unfold drSt
        generalize flt id l l.length = A at *
        by_cases hA : A = []
        · subst hA
          rw [if_pos rfl]
          have hst : FnSpec Try.prog 56 [.agg [int c, .sc (.slice none 0 0)]] [] (gq (stC c []) []) [] := (rsettle' c [] 0 rfl (by omega)).pre ⟨⟨cw_rfl _, cw_gnil, trivial⟩, trivial⟩
          simp only [go_sem, Nat.reduceEqDiff, Nat.reduceAdd, Nat.reduceSub, Nat.reduceMul, Nat.reduceLT, Nat.reduceLeDiff, ↓reduceIte, reduceCtorEq, List.reduceReplicate, Int.cast_ofNat_Int, Int.reduceEq, Int.reduceLT, Int.reduceLE, decide_eq_false hlt']
          repeat' (first
    | with_reducible refine And.intro ?_ ?_
    | (intros; (try simp only [Bool.and_eq_true, Bool.or_eq_true, Bool.not_eq_true', Bool.not_eq_false', Bool.and_eq_false_iff, Bool.or_eq_false_iff, decide_eq_true_eq, decide_eq_false_iff_not] at *); omega)
    | (apply cl_plain
       case hs => rfl
       case ha => (simp only [List.map_cons, List.map_nil, prepV, prepC, idx, hpL', lookR, Nat.reduceEqDiff, if_true, if_false]; rfl)
       case h => (first | exact hst ..))
    | ((first | refine s1_id ?_ | refine swp_id ?_ | refine sops_id ?_ | refine s2_id ?_); simp only [decide_eq_false hlt', go_sem, Nat.reduceEqDiff, Nat.reduceAdd, Nat.reduceSub, Nat.reduceMul, Nat.reduceLT, Nat.reduceLeDiff, ↓reduceIte, reduceCtorEq, List.reduceReplicate, Int.cast_ofNat_Int, Int.reduceEq, Int.reduceLT, Int.reduceLE, SV.ren, SV.renL, Cell.ren, Row.ren, renO, bk, back, outUpsFrom, Ints_ren])
    | (apply fs_nil <;> (try simp only [go_sem, resV, resS, SV.ren, SV.renL, Cell.ren, St.tmF, St.hpF, idx, renO, Row.ren, evS, slot, lookR, Nat.reduceEqDiff, ↓reduceIte, reduceCtorEq, if_true, if_false, Option.getD_some, Option.getD_none, List.map_cons, List.map_nil, sLoad, readAt, readNeed, Ints_ren, Ints_length, Ints_getD, and_true, true_and, List.getD_cons_zero, List.getD_cons_succ]) <;> (try rfl)))
        · rw [if_neg hA]
          have hst := rsettle' c A A.length rfl (by omega)
          simp only [go_sem, Nat.reduceEqDiff, Nat.reduceAdd, Nat.reduceSub, Nat.reduceMul, Nat.reduceLT, Nat.reduceLeDiff, ↓reduceIte, reduceCtorEq, List.reduceReplicate, Int.cast_ofNat_Int, Int.reduceEq, Int.reduceLT, Int.reduceLE, decide_eq_false hlt']
          repeat' (first
    | with_reducible refine And.intro ?_ ?_
    | (intros; (try simp only [Bool.and_eq_true, Bool.or_eq_true, Bool.not_eq_true', Bool.not_eq_false', Bool.and_eq_false_iff, Bool.or_eq_false_iff, decide_eq_true_eq, decide_eq_false_iff_not] at *); omega)
    | (apply cl_use
       case hr => (simp only [List.map_cons, List.map_nil, hpL', lookR, Nat.reduceEqDiff, if_true, if_false]; first | exact map0 | exact map1 _ | exact map2 _ _ | exact map3 _ _ _)
       case ha => (simp only [List.map_cons, List.map_nil, prepV, prepC, idx, hpL', lookR, Nat.reduceEqDiff, if_true, if_false]; rfl)
       case hs => (simp only [snaps, SV.refs, Cell.refs, idx, List.flatMap_cons, List.flatMap_nil, List.nil_append, List.cons_append, List.append_nil, List.filter_cons, List.filter_nil, Nat.reduceEqDiff, if_true, if_false, Option.isNone_none, Option.isNone_some, Bool.false_eq_true, reduceCtorEq, ↓reduceIte]; rfl)
       case hn => decide
       case h => (first | exact hst ..)
       case hf => (simp only [List.forall_mem_cons, List.not_mem_nil, false_implies, implies_true, and_true, true_and, flat_cons, flat_nil, flat_ints, flat_bools, flat_app, Cell.refs, and_self, eq_self_iff_true, List.append_nil])
       case hg => ((simp [hpL', lookR, Cell.isG]) <;> (repeat' apply And.intro) <;> (first | exact Ints_isG _ | exact Its_isG _))
       case hl => (simp only [List.length_cons, List.length_nil]; decide))
    | ((first | refine s1_id ?_ | refine swp_id ?_ | refine sops_id ?_ | refine s2_id ?_); simp only [decide_eq_false hlt', go_sem, Nat.reduceEqDiff, Nat.reduceAdd, Nat.reduceSub, Nat.reduceMul, Nat.reduceLT, Nat.reduceLeDiff, ↓reduceIte, reduceCtorEq, List.reduceReplicate, Int.cast_ofNat_Int, Int.reduceEq, Int.reduceLT, Int.reduceLE, SV.ren, SV.renL, Cell.ren, Row.ren, renO, bk, back, outUpsFrom, Ints_ren])
    | (apply fs_nil <;> (try simp only [go_sem, resV, resS, SV.ren, SV.renL, Cell.ren, St.tmF, St.hpF, idx, renO, Row.ren, evS, slot, lookR, Nat.reduceEqDiff, ↓reduceIte, reduceCtorEq, if_true, if_false, Option.getD_some, Option.getD_none, List.map_cons, List.map_nil, sLoad, readAt, readNeed, Ints_ren, Ints_length, Ints_getD, and_true, true_and, List.getD_cons_zero, List.getD_cons_succ]) <;> (try rfl)))
      have hlt' : (i : Int) < (l.length : Int) := by omega
      have hat := Its_at l i hlt
      have hf := Its_f l i hlt (.sc (.int .i64 0))
      by_cases hid : (l.getD i zi).i = id
      · have en := flt_no id l i hlt hid
        unfold drSt
        generalize flt id l i = A at *
        by_cases hA : A = []
        · rw [if_pos hA]
          simp only [go_sem, Nat.reduceEqDiff, Nat.reduceAdd, Nat.reduceSub, Nat.reduceMul, Nat.reduceLT, Nat.reduceLeDiff, ↓reduceIte, reduceCtorEq, List.reduceReplicate, Int.cast_ofNat_Int, Int.reduceEq, Int.reduceLT, Int.reduceLE, decide_eq_true hlt', hf]
          repeat' (first
    | with_reducible refine And.intro ?_ ?_
    | (intros; (try simp only [Bool.and_eq_true, Bool.or_eq_true, Bool.not_eq_true', Bool.not_eq_false', Bool.and_eq_false_iff, Bool.or_eq_false_iff, decide_eq_true_eq, decide_eq_false_iff_not] at *); omega)
    | (refine gt_if (fun h => ?_) (fun h => ?_) <;> (try simp only [h]))
    | ((first | refine s1_id ?_ | refine swp_id ?_ | refine sops_id ?_ | refine s2_id ?_); simp only [decide_eq_true hlt', decide_eq_true hid, hf, go_sem, Nat.reduceEqDiff, Nat.reduceAdd, Nat.reduceSub, Nat.reduceMul, Nat.reduceLT, Nat.reduceLeDiff, ↓reduceIte, reduceCtorEq, List.reduceReplicate, Int.cast_ofNat_Int, Int.reduceEq, Int.reduceLT, Int.reduceLE, SV.ren, SV.renL, Cell.ren, Row.ren, renO, bk, back, outUpsFrom, Ints_ren]))
          refine le_mk (i + 1) ?_ (by omega) (by omega)
          rw [en, if_pos hA]
          (refine imp_ren _ _ _ [(0, 0, ⟨[int c, .gsl (Its l) 0 l.length cap], 2⟩), (1, 1, ⟨[int 0, .sc (.slice none 0 0)], 2⟩), (2, 2, ⟨[int c, .sc (.slice none 0 0)], 2⟩)] (by simp) (by simp) (by simp) (Nat.le_of_ble_eq_true rfl) ?_ rfl (by simp only [List.forall_mem_cons, List.not_mem_nil, false_implies, implies_true, and_true, St.hpF, lookR, Nat.reduceEqDiff, if_true, if_false, ↓reduceIte] <;> (repeat' apply And.intro) <;> (first | rfl | trivial)) (by simp only [List.forall_mem_cons, List.not_mem_nil, false_implies, implies_true, and_true, true_and, flat_cons, flat_nil, flat_ints, flat_bools, flat_app, Cell.refs, and_self, eq_self_iff_true, List.append_nil]); simp only [List.map_cons, List.map_nil, List.forall_mem_cons, List.not_mem_nil, false_implies, implies_true, and_true, lk, slot, SV.ren, Cell.ren, toN, Nat.reduceEqDiff, if_true, if_false, ↓reduceIte, reduceCtorEq])
          all_goals ((repeat' apply And.intro) <;> (first | rfl | trivial | (simp only [Int.natCast_add]; done) | (simp only [Int.natCast_add]; rfl) | (simp only [Int.natCast_add]; trivial)))
        · rw [if_neg hA]
          simp only [go_sem, Nat.reduceEqDiff, Nat.reduceAdd, Nat.reduceSub, Nat.reduceMul, Nat.reduceLT, Nat.reduceLeDiff, ↓reduceIte, reduceCtorEq, List.reduceReplicate, Int.cast_ofNat_Int, Int.reduceEq, Int.reduceLT, Int.reduceLE, decide_eq_true hlt', hf]
          repeat' (first
    | with_reducible refine And.intro ?_ ?_
    | (intros; (try simp only [Bool.and_eq_true, Bool.or_eq_true, Bool.not_eq_true', Bool.not_eq_false', Bool.and_eq_false_iff, Bool.or_eq_false_iff, decide_eq_true_eq, decide_eq_false_iff_not] at *); omega)
    | (refine gt_if (fun h => ?_) (fun h => ?_) <;> (try simp only [h]))
    | ((first | refine s1_id ?_ | refine swp_id ?_ | refine sops_id ?_ | refine s2_id ?_); simp only [decide_eq_true hlt', decide_eq_true hid, hf, go_sem, Nat.reduceEqDiff, Nat.reduceAdd, Nat.reduceSub, Nat.reduceMul, Nat.reduceLT, Nat.reduceLeDiff, ↓reduceIte, reduceCtorEq, List.reduceReplicate, Int.cast_ofNat_Int, Int.reduceEq, Int.reduceLT, Int.reduceLE, SV.ren, SV.renL, Cell.ren, Row.ren, renO, bk, back, outUpsFrom, Ints_ren]))
          refine le_mk (i + 1) ?_ (by omega) (by omega)
          rw [en, if_neg hA]
          (refine imp_sub _ _ _ [(0, 0), (1, 1), (2, 2), (3, 3)] (by simp) (by simp) (by simp) (Nat.le_of_ble_eq_true rfl) ?_ (by simp only [List.map_cons, List.map_nil, St.hpF, lookR, renO, Row.ren, Cell.ren, toN, Ints_ren, Bools_ren, Nat.reduceEqDiff, if_true, if_false, ↓reduceIte, Its_ren, Its_flat] <;> (try rfl)) (by simp only [List.forall_mem_cons, List.not_mem_nil, false_implies, implies_true, and_true, St.hpF, lookR, Nat.reduceEqDiff, if_true, if_false, ↓reduceIte, Option.some.injEq, forall_eq'] <;> ((repeat' with_reducible apply And.intro) <;> (first | with_reducible trivial | exact fun c hc q hq => absurd hq (Ints_refs0 _ _ c hc) | exact fun c hc q hq => absurd hq (by rw [Its_flat _ c hc]; exact List.not_mem_nil) | (simp [Cell.refs, toN]; done)))); simp only [List.map_cons, List.map_nil, List.forall_mem_cons, List.not_mem_nil, false_implies, implies_true, and_true, lk, slot, SV.ren, Cell.ren, toN, Nat.reduceEqDiff, if_true, if_false, ↓reduceIte, reduceCtorEq])
          all_goals ((repeat' apply And.intro) <;> (first | rfl | trivial | (simp only [Int.natCast_add]; done) | (simp only [Int.natCast_add]; rfl) | (simp only [Int.natCast_add]; trivial)))
      · have ey := flt_yes id l i hlt hid
        have hyl : (flt id l i ++ [l.getD i zi]).length = (flt id l i).length + 1 := by simp
        have hne : ¬ flt id l i ++ [l.getD i zi] = [] := by simp
        unfold drSt
        generalize flt id l i = A at *
        by_cases hA : A = []
        · rw [if_pos hA]
          subst hA
          simp only [go_sem, Nat.reduceEqDiff, Nat.reduceAdd, Nat.reduceSub, Nat.reduceMul, Nat.reduceLT, Nat.reduceLeDiff, ↓reduceIte, reduceCtorEq, List.reduceReplicate, Int.cast_ofNat_Int, Int.reduceEq, Int.reduceLT, Int.reduceLE, decide_eq_true hlt', hf]
          repeat' (first
    | with_reducible refine And.intro ?_ ?_
    | (unfold OKC; kernel_rfl)
    | (unfold EDG; kernel_rfl)
    | (intros; (try simp only [Bool.and_eq_true, Bool.or_eq_true, Bool.not_eq_true', Bool.not_eq_false', Bool.and_eq_false_iff, Bool.or_eq_false_iff, decide_eq_true_eq, decide_eq_false_iff_not] at *); omega)
    | (refine gt_if (fun h => ?_) (fun h => ?_) <;> (try simp only [h]))
    | ((first | refine s1_id ?_ | refine swp_id ?_ | refine sops_id ?_ | refine s2_id ?_); simp only [decide_eq_true hlt', decide_eq_false hid, hf, hat, List.flatten_cons, List.flatten_nil, List.append_nil, go_sem, Nat.reduceEqDiff, Nat.reduceAdd, Nat.reduceSub, Nat.reduceMul, Nat.reduceLT, Nat.reduceLeDiff, ↓reduceIte, reduceCtorEq, List.reduceReplicate, Int.cast_ofNat_Int, Int.reduceEq, Int.reduceLT, Int.reduceLE, SV.ren, SV.renL, Cell.ren, Row.ren, renO, bk, back, outUpsFrom, Ints_ren]))
          refine le_mk (i + 1) ?_ (by omega) (by omega)
          rw [ey, if_neg hne]
          have h1 : Its [l.getD i zi] = itc (l.getD i zi) := (Its_one _).symm
          have h2 : itc (l.getD i zi) = [int (l.getD i zi).i, int (l.getD i zi).w, int (l.getD i zi).v, Sh.bool (l.getD i zi).a] := rfl
          (refine imp_sub _ _ _ [(0, 0), (1, 1), (2, 2), (3, 24)] (by simp) (by simp) (by simp) (Nat.le_of_ble_eq_true rfl) ?_ (by simp only [List.map_cons, List.map_nil, St.hpF, lookR, renO, Row.ren, Cell.ren, toN, Ints_ren, Bools_ren, Nat.reduceEqDiff, if_true, if_false, ↓reduceIte, Its_ren, Its_flat, List.nil_append, h1, h2] <;> (try rfl)) (by simp only [List.forall_mem_cons, List.not_mem_nil, false_implies, implies_true, and_true, St.hpF, lookR, Nat.reduceEqDiff, if_true, if_false, ↓reduceIte, Option.some.injEq, forall_eq'] <;> ((repeat' with_reducible apply And.intro) <;> (first | with_reducible trivial | exact fun c hc q hq => absurd hq (Ints_refs0 _ _ c hc) | exact fun c hc q hq => absurd hq (by rw [Its_flat _ c hc]; exact List.not_mem_nil) | (simp [Cell.refs, toN]; done)))); simp only [List.map_cons, List.map_nil, List.forall_mem_cons, List.not_mem_nil, false_implies, implies_true, and_true, lk, slot, SV.ren, Cell.ren, toN, Nat.reduceEqDiff, if_true, if_false, ↓reduceIte, reduceCtorEq])
          all_goals ((repeat' apply And.intro) <;> (first | rfl | trivial | (simp only [Int.natCast_add, List.nil_append, List.length_cons, List.length_nil]; done) | (simp only [Int.natCast_add, List.nil_append, List.length_cons, List.length_nil]; rfl) | (simp only [Int.natCast_add, List.nil_append, List.length_cons, List.length_nil]; trivial)))
        · rw [if_neg hA]
          have hap : Its A ++ itc (l.getD i zi) = Its (A ++ [l.getD i zi]) := by rw [Its_one, Its_app]
          have htk : List.take (A.length * 4) (Its A) = Its A := List.take_of_length_le (by omega)
          simp only [go_sem, Nat.reduceEqDiff, Nat.reduceAdd, Nat.reduceSub, Nat.reduceMul, Nat.reduceLT, Nat.reduceLeDiff, ↓reduceIte, reduceCtorEq, List.reduceReplicate, Int.cast_ofNat_Int, Int.reduceEq, Int.reduceLT, Int.reduceLE, decide_eq_true hlt', hf]
          repeat' (first
    | with_reducible refine And.intro ?_ ?_
    | (unfold OKC; kernel_rfl)
    | (unfold EDG; kernel_rfl)
    | (intros; (try simp only [Bool.and_eq_true, Bool.or_eq_true, Bool.not_eq_true', Bool.not_eq_false', Bool.and_eq_false_iff, Bool.or_eq_false_iff, decide_eq_true_eq, decide_eq_false_iff_not] at *); omega)
    | (refine gt_if (fun h => ?_) (fun h => ?_) <;> (try simp only [h]))
    | ((first | refine s1_id ?_ | refine swp_id ?_ | refine sops_id ?_ | refine s2_id ?_); simp only [decide_eq_true hlt', decide_eq_false hid, hf, hat, List.flatten_cons, List.flatten_nil, List.append_nil, hDl, htk, hap, go_sem, Nat.reduceEqDiff, Nat.reduceAdd, Nat.reduceSub, Nat.reduceMul, Nat.reduceLT, Nat.reduceLeDiff, ↓reduceIte, reduceCtorEq, List.reduceReplicate, Int.cast_ofNat_Int, Int.reduceEq, Int.reduceLT, Int.reduceLE, SV.ren, SV.renL, Cell.ren, Row.ren, renO, bk, back, outUpsFrom, Ints_ren]))
          refine le_mk (i + 1) ?_ (by omega) (by omega)
          rw [ey, if_neg hne]
          (refine imp_sub _ _ _ [(0, 0), (1, 1), (2, 2), (3, 25)] (by simp) (by simp) (by simp) (Nat.le_of_ble_eq_true rfl) ?_ (by simp only [List.map_cons, List.map_nil, St.hpF, lookR, renO, Row.ren, Cell.ren, toN, Ints_ren, Bools_ren, Nat.reduceEqDiff, if_true, if_false, ↓reduceIte, Its_ren, Its_flat, hyl] <;> (try rfl)) (by simp only [List.forall_mem_cons, List.not_mem_nil, false_implies, implies_true, and_true, St.hpF, lookR, Nat.reduceEqDiff, if_true, if_false, ↓reduceIte, Option.some.injEq, forall_eq'] <;> ((repeat' with_reducible apply And.intro) <;> (first | with_reducible trivial | exact fun c hc q hq => absurd hq (Ints_refs0 _ _ c hc) | exact fun c hc q hq => absurd hq (by rw [Its_flat _ c hc]; exact List.not_mem_nil) | (simp [Cell.refs, toN]; done)))); simp only [List.map_cons, List.map_nil, List.forall_mem_cons, List.not_mem_nil, false_implies, implies_true, and_true, lk, slot, SV.ren, Cell.ren, toN, Nat.reduceEqDiff, if_true, if_false, ↓reduceIte, reduceCtorEq])
          all_goals ((repeat' apply And.intro) <;> (first | rfl | trivial | (simp only [Int.natCast_add, hyl]; done) | (simp only [Int.natCast_add, hyl]; rfl) | (simp only [Int.natCast_add, hyl]; trivial)))
end Go.Proofs.Ytabanfgnnelfcaa
