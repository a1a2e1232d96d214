/- Contracts of functions, told of values, on the way to VirtualWakes. -/
import Derived.Test.YtabanfgnnelfcaaTyCa
import Derived.Test.YtabanfgnnelfcaaVt7Ca
-- NEWGO
-- PRUNE: cl_lendx cl_use cl_show
-- FLAT: Its_flat
namespace Go.Proofs.Ytabanfgnnelfcaa
set_option linter.unusedVariables false
set_option linter.unusedSimpArgs false
open Go.Proofs.Ytabanfgnnelfcaa.Sh
set_option maxRecDepth 20000
theorem qck_iff {c : Int} {l : List It} (h : qck c l = true) : 0 ≤ c ∧ c ≤ 1152921504606846976 ∧ l.length ≤ 192 ∧ ∀ i, i < l.length → qp c l i = true := by
  unfold qck at h
  simp only [Bool.and_eq_true, decide_eq_true_eq, List.all_eq_true, List.mem_range] at h
  exact ⟨h.1.1.1, h.1.1.2, h.1.2, h.2⟩
theorem qck_ok {c : Int} {l : List It} (h : qck c l = true) {k : Nat} (hk : k < l.length) : iOk c (l.getD k zi) = true := by
  have := (qck_iff h).2.2.2 k hk
  unfold qp at this
  simp only [Bool.and_eq_true] at this
  exact this.2
theorem iOk_iff {c : Int} {x : It} (h : iOk c x = true) : x.i ≠ 0 ∧ wok x.w = true ∧ 0 ≤ x.v ∧ x.v ≤ c + cst x.w ∧ x.v ≤ 1152921504606846976 ∧ (x.a = true → c ≤ x.v) := by
  unfold iOk iBad at h
  simp only [Bool.and_eq_true, Bool.not_eq_true', Bool.or_eq_false_iff, decide_eq_false_iff_not, Bool.not_eq_false', Bool.or_eq_true, decide_eq_true_eq] at h
  obtain ⟨⟨⟨⟨h0, h1⟩, h2⟩, h3⟩, h4⟩ := h
  refine ⟨h0, h1, by omega, ?_, ?_, ?_⟩
  · split at h3 <;> omega
  · split at h3 <;> omega
  · intro ha
    rw [ha] at h4
    simpa using h4
def chg (c : Int) (l : List It) (id : Int) (F : Int × List It) : (Int × List It) × Int := if qck c l = true then (if bsF l id = true then (if F.1 = 0 then ((stC c F.2, F.2), 0) else ((0, []), F.1)) else ((0, []), 4)) else ((0, []), 1)
abbrev rq (r : (Int × List It) × Int) : SV := .tup [gq r.1.1 r.1.2, i1 r.2]
theorem wkF_len (c : Int) (l : List It) (k : Nat) : (wkF c l k).2.length = l.length := by unfold wkF; split <;> simp
theorem svF_len (l : List It) (k : Nat) : (svF l k).2.length = l.length := by
  unfold svF
  split
  · split <;> simp
  · rfl
set_option maxHeartbeats 4000000 in
theorem ch_wake (c : Int) (l : List It) (cap : Option Nat) (id : Int) (hl : l.length ≤ 4611686018427387904) : FnSpec Try.prog 44 [gqc c l cap, i1 id, .one (.fn 45 [.gptr [int c, .gsl (Its l) 0 l.length cap] 0])] [] (rq (chg c l id (wkF c l (bsV l id)))) [] := by
  have hx := index_spec c l cap id hl
  have hc := check_spec c l cap hl
  unfold chg
  cases hq : qck c l with
  | false =>
    rw [hq] at hc
    rw [if_neg Bool.false_ne_true]
    refine fnspec_of mixed TT_ok TT_cl ⟨fun _ => false, fun g => if g = 45 then [0] else [], 0, fun _ => false, fun _ => false⟩ Try.func44 rfl (by kernel_rfl) rfl 40 rfl [.cell 6 29, .tmp 7] rfl ?_
    simp only [go_sem, Nat.reduceEqDiff, Nat.reduceAdd, Nat.reduceSub, Nat.reduceMul, Nat.reduceLT, Nat.reduceLeDiff, ↓reduceIte, reduceCtorEq, List.reduceReplicate, Int.cast_ofNat_Int, Int.reduceEq, Int.reduceLT, Int.reduceLE]
    repeat' (first
    | (apply cl_plain
       case hs => rfl
       case ha => (simp only [List.map_cons, List.map_nil, prepV, prepC, idx, hpL', lookR, Nat.reduceEqDiff, if_true, if_false]; rfl)
       case h => (first | exact hx .. | exact hc ..))
    | ((first | refine s1_id ?_ | refine swp_id ?_ | refine sops_id ?_ | refine s2_id ?_); simp only [go_sem, Nat.reduceEqDiff, Nat.reduceAdd, Nat.reduceSub, Nat.reduceMul, Nat.reduceLT, Nat.reduceLeDiff, ↓reduceIte, reduceCtorEq, List.reduceReplicate, Int.cast_ofNat_Int, Int.reduceEq, Int.reduceLT, Int.reduceLE, SV.ren, SV.renL, Cell.ren, Row.ren, renO, bk, back, outUpsFrom, Ints_ren]))
    (refine fs_w (by simp only [go_sem, resV, resS, SV.ren, SV.renL, Cell.ren, St.tmF, St.hpF, idx, renO, Row.ren, evS, slot, lookR, Nat.reduceEqDiff, ↓reduceIte, reduceCtorEq, if_true, if_false, Option.getD_some, Option.getD_none, List.map_cons, List.map_nil, sLoad, readAt, readNeed, Ints_ren, Ints_length, Ints_getD, and_true, true_and, List.getD_cons_zero, List.getD_cons_succ]; try trivial) ?_; simp only [go_sem, resV, resS, SV.ren, SV.renL, Cell.ren, St.tmF, St.hpF, idx, renO, Row.ren, evS, slot, lookR, Nat.reduceEqDiff, ↓reduceIte, reduceCtorEq, if_true, if_false, Option.getD_some, Option.getD_none, List.map_cons, List.map_nil, sLoad, readAt, readNeed, Ints_ren, Ints_length, Ints_getD, and_true, true_and, List.getD_cons_zero, List.getD_cons_succ]; refine svw_of ?_; simp only [sw_tup, swl_cons, swl_nil, sw_one, sw_agg, cwl_cons, cwl_nil, cw_id, cw_nil0, cw_cap0, List.length_nil, and_true, true_and, and_self] <;> (try ((repeat' with_reducible apply And.intro) <;> (first | with_reducible trivial | exact cw_rfl _ | exact cw_gnil | exact cw_niln _ _ | exact cw_cap _ _ _ _ | (refine cw_eq ?_; congr; done)))))
  | true =>
    rw [hq] at hc
    rw [if_pos rfl]
    cases hF : bsF l id with
    | false =>
      rw [hF] at hx
      rw [if_neg Bool.false_ne_true]
      refine fnspec_of mixed TT_ok TT_cl ⟨fun _ => false, fun g => if g = 45 then [0] else [], 0, fun _ => false, fun _ => false⟩ Try.func44 rfl (by kernel_rfl) rfl 40 rfl [.cell 6 29, .tmp 7] rfl ?_
      simp only [go_sem, Nat.reduceEqDiff, Nat.reduceAdd, Nat.reduceSub, Nat.reduceMul, Nat.reduceLT, Nat.reduceLeDiff, ↓reduceIte, reduceCtorEq, List.reduceReplicate, Int.cast_ofNat_Int, Int.reduceEq, Int.reduceLT, Int.reduceLE]
      repeat' (first
    | (apply cl_plain
       case hs => rfl
       case ha => (simp only [List.map_cons, List.map_nil, prepV, prepC, idx, hpL', lookR, Nat.reduceEqDiff, if_true, if_false]; rfl)
       case h => (first | exact hx .. | exact hc ..))
    | ((first | refine s1_id ?_ | refine swp_id ?_ | refine sops_id ?_ | refine s2_id ?_); simp only [go_sem, Nat.reduceEqDiff, Nat.reduceAdd, Nat.reduceSub, Nat.reduceMul, Nat.reduceLT, Nat.reduceLeDiff, ↓reduceIte, reduceCtorEq, List.reduceReplicate, Int.cast_ofNat_Int, Int.reduceEq, Int.reduceLT, Int.reduceLE, SV.ren, SV.renL, Cell.ren, Row.ren, renO, bk, back, outUpsFrom, Ints_ren]))
      (refine fs_w (by simp only [go_sem, resV, resS, SV.ren, SV.renL, Cell.ren, St.tmF, St.hpF, idx, renO, Row.ren, evS, slot, lookR, Nat.reduceEqDiff, ↓reduceIte, reduceCtorEq, if_true, if_false, Option.getD_some, Option.getD_none, List.map_cons, List.map_nil, sLoad, readAt, readNeed, Ints_ren, Ints_length, Ints_getD, and_true, true_and, List.getD_cons_zero, List.getD_cons_succ]; try trivial) ?_; simp only [go_sem, resV, resS, SV.ren, SV.renL, Cell.ren, St.tmF, St.hpF, idx, renO, Row.ren, evS, slot, lookR, Nat.reduceEqDiff, ↓reduceIte, reduceCtorEq, if_true, if_false, Option.getD_some, Option.getD_none, List.map_cons, List.map_nil, sLoad, readAt, readNeed, Ints_ren, Ints_length, Ints_getD, and_true, true_and, List.getD_cons_zero, List.getD_cons_succ]; refine svw_of ?_; simp only [sw_tup, swl_cons, swl_nil, sw_one, sw_agg, cwl_cons, cwl_nil, cw_id, cw_nil0, cw_cap0, List.length_nil, and_true, true_and, and_self] <;> (try ((repeat' with_reducible apply And.intro) <;> (first | with_reducible trivial | exact cw_rfl _ | exact cw_gnil | exact cw_niln _ _ | exact cw_cap _ _ _ _ | (refine cw_eq ?_; congr; done)))))
    | true =>
      rw [hF] at hx
      rw [if_pos rfl]
      obtain ⟨hk, hid⟩ := bsF_lt hF
      have hqi := qck_iff hq
      have hio := iOk_iff (qck_ok hq hk)
      have hcl := clone_spec l cap (by omega)
      have hsp := (wake1_spec c l (bsV l id) [.gsl (Its l) 0 l.length cap] hk (by omega))
      have hln := wkF_len c l (bsV l id)
      generalize bsV l id = k at *
      generalize hY : wkF c l k = Y at *
      obtain ⟨e, l'⟩ := Y
      simp only at hsp hln ⊢
      by_cases he : e = 0
      · rw [if_pos he]
        have hst := settle_spec c l' none (by omega)
        refine fnspec_of mixed TT_ok TT_cl ⟨fun _ => false, fun g => if g = 45 then [0] else [], 0 , fun _ => false, fun i => if i = 10 then true else false⟩ Try.func44 rfl (by kernel_rfl) rfl 40 rfl [.cell 6 29, .tmp 7] rfl ?_
        simp only [go_sem, Nat.reduceEqDiff, Nat.reduceAdd, Nat.reduceSub, Nat.reduceMul, Nat.reduceLT, Nat.reduceLeDiff, ↓reduceIte, reduceCtorEq, List.reduceReplicate, Int.cast_ofNat_Int, Int.reduceEq, Int.reduceLT, Int.reduceLE]
        repeat' (first
    | (apply cl_plain
       case hs => rfl
       case ha => (simp only [List.map_cons, List.map_nil, prepV, prepC, idx, hpL', lookR, Nat.reduceEqDiff, if_true, if_false]; rfl)
       case h => (first | exact hx .. | exact hc .. | exact hcl .. | exact hsp ..))
    | (apply cl_lend
       case hr => (simp only [List.map_cons, List.map_nil, hpL', lookR, Nat.reduceEqDiff, if_true, if_false]; first | exact map1 _ | exact map2 _ _ | exact map3 _ _ _)
       case ha => (simp only [List.map_cons, List.map_nil, prepV, prepC, idx, hpL', lookR, Nat.reduceEqDiff, if_true, if_false]; rfl)
       case hs => rfl
       case hn => decide
       case h => (first | exact hx .. | exact hc .. | exact hcl .. | exact hsp ..)
       case hf => (simp only [List.forall_mem_cons, List.not_mem_nil, false_implies, implies_true, and_true, true_and, flat_cons, flat_nil, flat_ints, flat_bools, flat_app, Its_flat, Cell.refs, and_self, eq_self_iff_true, List.append_nil])
       case hl => (simp only [List.length_cons, List.length_nil]; decide))
    | ((first | refine s1_id ?_ | refine swp_id ?_ | refine sops_id ?_ | refine s2_id ?_); simp only [decide_eq_true he, Its_ren, go_sem, Nat.reduceEqDiff, Nat.reduceAdd, Nat.reduceSub, Nat.reduceMul, Nat.reduceLT, Nat.reduceLeDiff, ↓reduceIte, reduceCtorEq, List.reduceReplicate, Int.cast_ofNat_Int, Int.reduceEq, Int.reduceLT, Int.reduceLE, SV.ren, SV.renL, Cell.ren, Row.ren, renO, bk, back, outUpsFrom, Ints_ren]))
        refine rgf_t ⟨[(3, .one (.optr 0 0)), (6, .one (.optr 1 0)), (10, .one (.gsl (Its l') 0 l'.length none))], [(0, some ⟨[int c, .gsl (Its l) 0 l.length cap], 2⟩), (1, some ⟨[int 0, .sc (.slice none 0 0)], 2⟩)], 2⟩ ?_ ?_
        · refine Imp.trans (t := ⟨[(3, .one (.optr 0 0)), (6, .one (.optr 1 0)), (10, .one (.osl 2 0 l.length none))], [(0, some ⟨[int c, .gsl (Its l) 0 l.length cap], 2⟩), (1, some ⟨[int 0, .sc (.slice none 0 0)], 2⟩), (2, some ⟨Its l', 4⟩)], 3⟩) ?_ ?_
          · (refine imp_ren _ _ _ [(0, 0, ⟨[int c, .gsl (Its l) 0 l.length cap], 2⟩), (1, 1, ⟨[int 0, .sc (.slice none 0 0)], 2⟩), (2, 18, ⟨Its l', 4⟩)] (by simp) (by simp) (by simp) (Nat.le_of_ble_eq_true rfl) ?_ rfl (by simp only [List.forall_mem_cons, List.not_mem_nil, false_implies, implies_true, and_true, St.hpF, lookR, Nat.reduceEqDiff, if_true, if_false, ↓reduceIte, Its_flat] <;> (repeat' apply And.intro) <;> (first | rfl | trivial)) (by simp only [List.forall_mem_cons, List.not_mem_nil, false_implies, implies_true, and_true, true_and, flat_cons, flat_nil, flat_ints, flat_bools, flat_app, Cell.refs, and_self, eq_self_iff_true, List.append_nil, Its_flat]); simp only [List.map_cons, List.map_nil, List.forall_mem_cons, List.not_mem_nil, false_implies, implies_true, and_true, lk, slot, SV.ren, Cell.ren, toN, Nat.reduceEqDiff, if_true, if_false, ↓reduceIte, reduceCtorEq])
            all_goals ((repeat' apply And.intro) <;> (first | rfl | trivial))
          refine Imp.trans (imp_frz _ _ 2 ⟨Its l', 4⟩ (by simp only [St.hpF, lookR, Nat.reduceEqDiff, if_true, if_false, ↓reduceIte]) (Its_isG l')) ?_
          simp only [frzTm, SV.frz, SV.frzL, Cell.frz, frzHp, frzO, Its_frz, List.map_cons, List.map_nil, Nat.reduceEqDiff, if_true, if_false, ↓reduceIte]
          (refine imp_ren _ _ _ [(0, 0, ⟨[int c, .gsl (Its l) 0 l.length cap], 2⟩), (1, 1, ⟨[int 0, .sc (.slice none 0 0)], 2⟩)] (by simp) (by simp) (by simp) (Nat.le_of_ble_eq_true rfl) ?_ rfl (by simp only [List.forall_mem_cons, List.not_mem_nil, false_implies, implies_true, and_true, St.hpF, lookR, Nat.reduceEqDiff, if_true, if_false, ↓reduceIte] <;> (repeat' apply And.intro) <;> (first | rfl | trivial)) (by simp only [List.forall_mem_cons, List.not_mem_nil, false_implies, implies_true, and_true, true_and, flat_cons, flat_nil, flat_ints, flat_bools, flat_app, Cell.refs, and_self, eq_self_iff_true, List.append_nil]); simp only [List.map_cons, List.map_nil, List.forall_mem_cons, List.not_mem_nil, false_implies, implies_true, and_true, lk, slot, SV.ren, Cell.ren, toN, Nat.reduceEqDiff, if_true, if_false, ↓reduceIte, reduceCtorEq])
          all_goals ((repeat' apply And.intro) <;> (first | rfl | trivial | (simp only [hln]; done) | (simp only [hln]; rfl) | (simp only [hln]; trivial)))
        · simp only [go_sem, Nat.reduceEqDiff, Nat.reduceAdd, Nat.reduceSub, Nat.reduceMul, Nat.reduceLT, Nat.reduceLeDiff, ↓reduceIte, reduceCtorEq, List.reduceReplicate, Int.cast_ofNat_Int, Int.reduceEq, Int.reduceLT, Int.reduceLE]
          repeat' (first
    | with_reducible refine And.intro ?_ ?_
    | (intros; (try simp only [Bool.and_eq_true, Bool.or_eq_true, Bool.not_eq_true', Bool.not_eq_false', Bool.and_eq_false_iff, Bool.or_eq_false_iff, decide_eq_true_eq, decide_eq_false_iff_not] at *); omega)
    | (apply cl_plain
       case hs => rfl
       case ha => (simp only [List.map_cons, List.map_nil, prepV, prepC, idx, hpL', lookR, Nat.reduceEqDiff, if_true, if_false]; rfl)
       case h => (first | exact hst ..))
    | ((first | refine s1_id ?_ | refine swp_id ?_ | refine sops_id ?_ | refine s2_id ?_); simp only [go_sem, Nat.reduceEqDiff, Nat.reduceAdd, Nat.reduceSub, Nat.reduceMul, Nat.reduceLT, Nat.reduceLeDiff, ↓reduceIte, reduceCtorEq, List.reduceReplicate, Int.cast_ofNat_Int, Int.reduceEq, Int.reduceLT, Int.reduceLE, SV.ren, SV.renL, Cell.ren, Row.ren, renO, bk, back, outUpsFrom, Ints_ren])
    | (apply fs_nil <;> (try simp only [go_sem, resV, resS, SV.ren, SV.renL, Cell.ren, St.tmF, St.hpF, idx, renO, Row.ren, evS, slot, lookR, Nat.reduceEqDiff, ↓reduceIte, reduceCtorEq, if_true, if_false, Option.getD_some, Option.getD_none, List.map_cons, List.map_nil, sLoad, readAt, readNeed, Ints_ren, Ints_length, Ints_getD, and_true, true_and, List.getD_cons_zero, List.getD_cons_succ]) <;> (try rfl)))
      · rw [if_neg he]
        refine fnspec_of mixed TT_ok TT_cl ⟨fun _ => false, fun g => if g = 45 then [0] else [], 0, fun _ => false, fun _ => false⟩ Try.func44 rfl (by kernel_rfl) rfl 40 rfl [.cell 6 29, .tmp 7] rfl ?_
        simp only [go_sem, Nat.reduceEqDiff, Nat.reduceAdd, Nat.reduceSub, Nat.reduceMul, Nat.reduceLT, Nat.reduceLeDiff, ↓reduceIte, reduceCtorEq, List.reduceReplicate, Int.cast_ofNat_Int, Int.reduceEq, Int.reduceLT, Int.reduceLE]
        repeat' (first
    | (apply cl_plain
       case hs => rfl
       case ha => (simp only [List.map_cons, List.map_nil, prepV, prepC, idx, hpL', lookR, Nat.reduceEqDiff, if_true, if_false]; rfl)
       case h => (first | exact hx .. | exact hc .. | exact hcl .. | exact hsp ..))
    | (apply cl_lend
       case hr => (simp only [List.map_cons, List.map_nil, hpL', lookR, Nat.reduceEqDiff, if_true, if_false]; first | exact map1 _ | exact map2 _ _ | exact map3 _ _ _)
       case ha => (simp only [List.map_cons, List.map_nil, prepV, prepC, idx, hpL', lookR, Nat.reduceEqDiff, if_true, if_false]; rfl)
       case hs => rfl
       case hn => decide
       case h => (first | exact hx .. | exact hc .. | exact hcl .. | exact hsp ..)
       case hf => (simp only [List.forall_mem_cons, List.not_mem_nil, false_implies, implies_true, and_true, true_and, flat_cons, flat_nil, flat_ints, flat_bools, flat_app, Its_flat, Cell.refs, and_self, eq_self_iff_true, List.append_nil])
       case hl => (simp only [List.length_cons, List.length_nil]; decide))
    | ((first | refine s1_id ?_ | refine swp_id ?_ | refine sops_id ?_ | refine s2_id ?_); simp only [decide_eq_false he, Its_ren, go_sem, Nat.reduceEqDiff, Nat.reduceAdd, Nat.reduceSub, Nat.reduceMul, Nat.reduceLT, Nat.reduceLeDiff, ↓reduceIte, reduceCtorEq, List.reduceReplicate, Int.cast_ofNat_Int, Int.reduceEq, Int.reduceLT, Int.reduceLE, SV.ren, SV.renL, Cell.ren, Row.ren, renO, bk, back, outUpsFrom, Ints_ren]))
        (refine fs_w (by simp only [go_sem, resV, resS, SV.ren, SV.renL, Cell.ren, St.tmF, St.hpF, idx, renO, Row.ren, evS, slot, lookR, Nat.reduceEqDiff, ↓reduceIte, reduceCtorEq, if_true, if_false, Option.getD_some, Option.getD_none, List.map_cons, List.map_nil, sLoad, readAt, readNeed, Ints_ren, Ints_length, Ints_getD, and_true, true_and, List.getD_cons_zero, List.getD_cons_succ]; try trivial) ?_; simp only [go_sem, resV, resS, SV.ren, SV.renL, Cell.ren, St.tmF, St.hpF, idx, renO, Row.ren, evS, slot, lookR, Nat.reduceEqDiff, ↓reduceIte, reduceCtorEq, if_true, if_false, Option.getD_some, Option.getD_none, List.map_cons, List.map_nil, sLoad, readAt, readNeed, Ints_ren, Ints_length, Ints_getD, and_true, true_and, List.getD_cons_zero, List.getD_cons_succ]; refine svw_of ?_; simp only [sw_tup, swl_cons, swl_nil, sw_one, sw_agg, cwl_cons, cwl_nil, cw_id, cw_nil0, cw_cap0, List.length_nil, and_true, true_and, and_self] <;> (try ((repeat' with_reducible apply And.intro) <;> (first | with_reducible trivial | exact cw_rfl _ | exact cw_gnil | exact cw_niln _ _ | exact cw_cap _ _ _ _ | (refine cw_eq ?_; congr; done)))))
set_option maxHeartbeats 4000000 in
theorem ch_serve (c : Int) (l : List It) (cap : Option Nat) (id : Int) (hl : l.length ≤ 4611686018427387904) : FnSpec Try.prog 44 [gqc c l cap, i1 id, .one (.fn 47 [])] [] (rq (chg c l id (svF l (bsV l id)))) [] := by
  have hx := index_spec c l cap id hl
  have hc := check_spec c l cap hl
  unfold chg
  cases hq : qck c l with
  | false =>
    rw [hq] at hc
    rw [if_neg Bool.false_ne_true]
    refine fnspec_of mixed TT_ok TT_cl ⟨fun _ => false, fun g => if g = 47 then [0] else [], 0, fun _ => false, fun _ => false⟩ Try.func44 rfl (by kernel_rfl) rfl 40 rfl [.cell 6 29, .tmp 7] rfl ?_
    simp only [go_sem, Nat.reduceEqDiff, Nat.reduceAdd, Nat.reduceSub, Nat.reduceMul, Nat.reduceLT, Nat.reduceLeDiff, ↓reduceIte, reduceCtorEq, List.reduceReplicate, Int.cast_ofNat_Int, Int.reduceEq, Int.reduceLT, Int.reduceLE]
    repeat' (first
    | (apply cl_plain
       case hs => rfl
       case ha => (simp only [List.map_cons, List.map_nil, prepV, prepC, idx, hpL', lookR, Nat.reduceEqDiff, if_true, if_false]; rfl)
       case h => (first | exact hx .. | exact hc ..))
    | ((first | refine s1_id ?_ | refine swp_id ?_ | refine sops_id ?_ | refine s2_id ?_); simp only [go_sem, Nat.reduceEqDiff, Nat.reduceAdd, Nat.reduceSub, Nat.reduceMul, Nat.reduceLT, Nat.reduceLeDiff, ↓reduceIte, reduceCtorEq, List.reduceReplicate, Int.cast_ofNat_Int, Int.reduceEq, Int.reduceLT, Int.reduceLE, SV.ren, SV.renL, Cell.ren, Row.ren, renO, bk, back, outUpsFrom, Ints_ren]))
    (refine fs_w (by simp only [go_sem, resV, resS, SV.ren, SV.renL, Cell.ren, St.tmF, St.hpF, idx, renO, Row.ren, evS, slot, lookR, Nat.reduceEqDiff, ↓reduceIte, reduceCtorEq, if_true, if_false, Option.getD_some, Option.getD_none, List.map_cons, List.map_nil, sLoad, readAt, readNeed, Ints_ren, Ints_length, Ints_getD, and_true, true_and, List.getD_cons_zero, List.getD_cons_succ]; try trivial) ?_; simp only [go_sem, resV, resS, SV.ren, SV.renL, Cell.ren, St.tmF, St.hpF, idx, renO, Row.ren, evS, slot, lookR, Nat.reduceEqDiff, ↓reduceIte, reduceCtorEq, if_true, if_false, Option.getD_some, Option.getD_none, List.map_cons, List.map_nil, sLoad, readAt, readNeed, Ints_ren, Ints_length, Ints_getD, and_true, true_and, List.getD_cons_zero, List.getD_cons_succ]; refine svw_of ?_; simp only [sw_tup, swl_cons, swl_nil, sw_one, sw_agg, cwl_cons, cwl_nil, cw_id, cw_nil0, cw_cap0, List.length_nil, and_true, true_and, and_self] <;> (try ((repeat' with_reducible apply And.intro) <;> (first | with_reducible trivial | exact cw_rfl _ | exact cw_gnil | exact cw_niln _ _ | exact cw_cap _ _ _ _ | (refine cw_eq ?_; congr; done)))))
  | true =>
    rw [hq] at hc
    rw [if_pos rfl]
    cases hF : bsF l id with
    | false =>
      rw [hF] at hx
      rw [if_neg Bool.false_ne_true]
      refine fnspec_of mixed TT_ok TT_cl ⟨fun _ => false, fun g => if g = 47 then [0] else [], 0, fun _ => false, fun _ => false⟩ Try.func44 rfl (by kernel_rfl) rfl 40 rfl [.cell 6 29, .tmp 7] rfl ?_
      simp only [go_sem, Nat.reduceEqDiff, Nat.reduceAdd, Nat.reduceSub, Nat.reduceMul, Nat.reduceLT, Nat.reduceLeDiff, ↓reduceIte, reduceCtorEq, List.reduceReplicate, Int.cast_ofNat_Int, Int.reduceEq, Int.reduceLT, Int.reduceLE]
      repeat' (first
    | (apply cl_plain
       case hs => rfl
       case ha => (simp only [List.map_cons, List.map_nil, prepV, prepC, idx, hpL', lookR, Nat.reduceEqDiff, if_true, if_false]; rfl)
       case h => (first | exact hx .. | exact hc ..))
    | ((first | refine s1_id ?_ | refine swp_id ?_ | refine sops_id ?_ | refine s2_id ?_); simp only [go_sem, Nat.reduceEqDiff, Nat.reduceAdd, Nat.reduceSub, Nat.reduceMul, Nat.reduceLT, Nat.reduceLeDiff, ↓reduceIte, reduceCtorEq, List.reduceReplicate, Int.cast_ofNat_Int, Int.reduceEq, Int.reduceLT, Int.reduceLE, SV.ren, SV.renL, Cell.ren, Row.ren, renO, bk, back, outUpsFrom, Ints_ren]))
      (refine fs_w (by simp only [go_sem, resV, resS, SV.ren, SV.renL, Cell.ren, St.tmF, St.hpF, idx, renO, Row.ren, evS, slot, lookR, Nat.reduceEqDiff, ↓reduceIte, reduceCtorEq, if_true, if_false, Option.getD_some, Option.getD_none, List.map_cons, List.map_nil, sLoad, readAt, readNeed, Ints_ren, Ints_length, Ints_getD, and_true, true_and, List.getD_cons_zero, List.getD_cons_succ]; try trivial) ?_; simp only [go_sem, resV, resS, SV.ren, SV.renL, Cell.ren, St.tmF, St.hpF, idx, renO, Row.ren, evS, slot, lookR, Nat.reduceEqDiff, ↓reduceIte, reduceCtorEq, if_true, if_false, Option.getD_some, Option.getD_none, List.map_cons, List.map_nil, sLoad, readAt, readNeed, Ints_ren, Ints_length, Ints_getD, and_true, true_and, List.getD_cons_zero, List.getD_cons_succ]; refine svw_of ?_; simp only [sw_tup, swl_cons, swl_nil, sw_one, sw_agg, cwl_cons, cwl_nil, cw_id, cw_nil0, cw_cap0, List.length_nil, and_true, true_and, and_self] <;> (try ((repeat' with_reducible apply And.intro) <;> (first | with_reducible trivial | exact cw_rfl _ | exact cw_gnil | exact cw_niln _ _ | exact cw_cap _ _ _ _ | (refine cw_eq ?_; congr; done)))))
    | true =>
      rw [hF] at hx
      rw [if_pos rfl]
      obtain ⟨hk, hid⟩ := bsF_lt hF
      have hqi := qck_iff hq
      have hio := iOk_iff (qck_ok hq hk)
      have hcl := clone_spec l cap (by omega)
      have hsp := (serve1_spec l (bsV l id) hk (by omega) ⟨hio.2.2.1, hio.2.2.2.2.1⟩)
      have hln := svF_len l (bsV l id)
      generalize bsV l id = k at *
      generalize hY : svF l k = Y at *
      obtain ⟨e, l'⟩ := Y
      simp only at hsp hln ⊢
      by_cases he : e = 0
      · rw [if_pos he]
        have hst := settle_spec c l' none (by omega)
        refine fnspec_of mixed TT_ok TT_cl ⟨fun _ => false, fun g => if g = 47 then [0] else [], 0 , fun _ => false, fun i => if i = 10 then true else false⟩ Try.func44 rfl (by kernel_rfl) rfl 40 rfl [.cell 6 29, .tmp 7] rfl ?_
        simp only [go_sem, Nat.reduceEqDiff, Nat.reduceAdd, Nat.reduceSub, Nat.reduceMul, Nat.reduceLT, Nat.reduceLeDiff, ↓reduceIte, reduceCtorEq, List.reduceReplicate, Int.cast_ofNat_Int, Int.reduceEq, Int.reduceLT, Int.reduceLE]
        repeat' (first
    | (apply cl_plain
       case hs => rfl
       case ha => (simp only [List.map_cons, List.map_nil, prepV, prepC, idx, hpL', lookR, Nat.reduceEqDiff, if_true, if_false]; rfl)
       case h => (first | exact hx .. | exact hc .. | exact hcl .. | exact hsp ..))
    | (apply cl_lend
       case hr => (simp only [List.map_cons, List.map_nil, hpL', lookR, Nat.reduceEqDiff, if_true, if_false]; first | exact map1 _ | exact map2 _ _ | exact map3 _ _ _)
       case ha => (simp only [List.map_cons, List.map_nil, prepV, prepC, idx, hpL', lookR, Nat.reduceEqDiff, if_true, if_false]; rfl)
       case hs => rfl
       case hn => decide
       case h => (first | exact hx .. | exact hc .. | exact hcl .. | exact hsp ..)
       case hf => (simp only [List.forall_mem_cons, List.not_mem_nil, false_implies, implies_true, and_true, true_and, flat_cons, flat_nil, flat_ints, flat_bools, flat_app, Its_flat, Cell.refs, and_self, eq_self_iff_true, List.append_nil])
       case hl => (simp only [List.length_cons, List.length_nil]; decide))
    | ((first | refine s1_id ?_ | refine swp_id ?_ | refine sops_id ?_ | refine s2_id ?_); simp only [decide_eq_true he, Its_ren, go_sem, Nat.reduceEqDiff, Nat.reduceAdd, Nat.reduceSub, Nat.reduceMul, Nat.reduceLT, Nat.reduceLeDiff, ↓reduceIte, reduceCtorEq, List.reduceReplicate, Int.cast_ofNat_Int, Int.reduceEq, Int.reduceLT, Int.reduceLE, SV.ren, SV.renL, Cell.ren, Row.ren, renO, bk, back, outUpsFrom, Ints_ren]))
        refine rgf_t ⟨[(3, .one (.optr 0 0)), (6, .one (.optr 1 0)), (10, .one (.gsl (Its l') 0 l'.length none))], [(0, some ⟨[int c, .gsl (Its l) 0 l.length cap], 2⟩), (1, some ⟨[int 0, .sc (.slice none 0 0)], 2⟩)], 2⟩ ?_ ?_
        · refine Imp.trans (t := ⟨[(3, .one (.optr 0 0)), (6, .one (.optr 1 0)), (10, .one (.osl 2 0 l.length none))], [(0, some ⟨[int c, .gsl (Its l) 0 l.length cap], 2⟩), (1, some ⟨[int 0, .sc (.slice none 0 0)], 2⟩), (2, some ⟨Its l', 4⟩)], 3⟩) ?_ ?_
          · (refine imp_ren _ _ _ [(0, 0, ⟨[int c, .gsl (Its l) 0 l.length cap], 2⟩), (1, 1, ⟨[int 0, .sc (.slice none 0 0)], 2⟩), (2, 18, ⟨Its l', 4⟩)] (by simp) (by simp) (by simp) (Nat.le_of_ble_eq_true rfl) ?_ rfl (by simp only [List.forall_mem_cons, List.not_mem_nil, false_implies, implies_true, and_true, St.hpF, lookR, Nat.reduceEqDiff, if_true, if_false, ↓reduceIte, Its_flat] <;> (repeat' apply And.intro) <;> (first | rfl | trivial)) (by simp only [List.forall_mem_cons, List.not_mem_nil, false_implies, implies_true, and_true, true_and, flat_cons, flat_nil, flat_ints, flat_bools, flat_app, Cell.refs, and_self, eq_self_iff_true, List.append_nil, Its_flat]); simp only [List.map_cons, List.map_nil, List.forall_mem_cons, List.not_mem_nil, false_implies, implies_true, and_true, lk, slot, SV.ren, Cell.ren, toN, Nat.reduceEqDiff, if_true, if_false, ↓reduceIte, reduceCtorEq])
            all_goals ((repeat' apply And.intro) <;> (first | rfl | trivial))
          refine Imp.trans (imp_frz _ _ 2 ⟨Its l', 4⟩ (by simp only [St.hpF, lookR, Nat.reduceEqDiff, if_true, if_false, ↓reduceIte]) (Its_isG l')) ?_
          simp only [frzTm, SV.frz, SV.frzL, Cell.frz, frzHp, frzO, Its_frz, List.map_cons, List.map_nil, Nat.reduceEqDiff, if_true, if_false, ↓reduceIte]
          (refine imp_ren _ _ _ [(0, 0, ⟨[int c, .gsl (Its l) 0 l.length cap], 2⟩), (1, 1, ⟨[int 0, .sc (.slice none 0 0)], 2⟩)] (by simp) (by simp) (by simp) (Nat.le_of_ble_eq_true rfl) ?_ rfl (by simp only [List.forall_mem_cons, List.not_mem_nil, false_implies, implies_true, and_true, St.hpF, lookR, Nat.reduceEqDiff, if_true, if_false, ↓reduceIte] <;> (repeat' apply And.intro) <;> (first | rfl | trivial)) (by simp only [List.forall_mem_cons, List.not_mem_nil, false_implies, implies_true, and_true, true_and, flat_cons, flat_nil, flat_ints, flat_bools, flat_app, Cell.refs, and_self, eq_self_iff_true, List.append_nil]); simp only [List.map_cons, List.map_nil, List.forall_mem_cons, List.not_mem_nil, false_implies, implies_true, and_true, lk, slot, SV.ren, Cell.ren, toN, Nat.reduceEqDiff, if_true, if_false, ↓reduceIte, reduceCtorEq])
          all_goals ((repeat' apply And.intro) <;> (first | rfl | trivial | (simp only [hln]; done) | (simp only [hln]; rfl) | (simp only [hln]; trivial)))
        · simp only [go_sem, Nat.reduceEqDiff, Nat.reduceAdd, Nat.reduceSub, Nat.reduceMul, Nat.reduceLT, Nat.reduceLeDiff, ↓reduceIte, reduceCtorEq, List.reduceReplicate, Int.cast_ofNat_Int, Int.reduceEq, Int.reduceLT, Int.reduceLE]
          repeat' (first
    | with_reducible refine And.intro ?_ ?_
    | (intros; (try simp only [Bool.and_eq_true, Bool.or_eq_true, Bool.not_eq_true', Bool.not_eq_false', Bool.and_eq_false_iff, Bool.or_eq_false_iff, decide_eq_true_eq, decide_eq_false_iff_not] at *); omega)
    | (apply cl_plain
       case hs => rfl
       case ha => (simp only [List.map_cons, List.map_nil, prepV, prepC, idx, hpL', lookR, Nat.reduceEqDiff, if_true, if_false]; rfl)
       case h => (first | exact hst ..))
    | ((first | refine s1_id ?_ | refine swp_id ?_ | refine sops_id ?_ | refine s2_id ?_); simp only [go_sem, Nat.reduceEqDiff, Nat.reduceAdd, Nat.reduceSub, Nat.reduceMul, Nat.reduceLT, Nat.reduceLeDiff, ↓reduceIte, reduceCtorEq, List.reduceReplicate, Int.cast_ofNat_Int, Int.reduceEq, Int.reduceLT, Int.reduceLE, SV.ren, SV.renL, Cell.ren, Row.ren, renO, bk, back, outUpsFrom, Ints_ren])
    | (apply fs_nil <;> (try simp only [go_sem, resV, resS, SV.ren, SV.renL, Cell.ren, St.tmF, St.hpF, idx, renO, Row.ren, evS, slot, lookR, Nat.reduceEqDiff, ↓reduceIte, reduceCtorEq, if_true, if_false, Option.getD_some, Option.getD_none, List.map_cons, List.map_nil, sLoad, readAt, readNeed, Ints_ren, Ints_length, Ints_getD, and_true, true_and, List.getD_cons_zero, List.getD_cons_succ]) <;> (try rfl)))
      · rw [if_neg he]
        refine fnspec_of mixed TT_ok TT_cl ⟨fun _ => false, fun g => if g = 47 then [0] else [], 0, fun _ => false, fun _ => false⟩ Try.func44 rfl (by kernel_rfl) rfl 40 rfl [.cell 6 29, .tmp 7] rfl ?_
        simp only [go_sem, Nat.reduceEqDiff, Nat.reduceAdd, Nat.reduceSub, Nat.reduceMul, Nat.reduceLT, Nat.reduceLeDiff, ↓reduceIte, reduceCtorEq, List.reduceReplicate, Int.cast_ofNat_Int, Int.reduceEq, Int.reduceLT, Int.reduceLE]
        repeat' (first
    | (apply cl_plain
       case hs => rfl
       case ha => (simp only [List.map_cons, List.map_nil, prepV, prepC, idx, hpL', lookR, Nat.reduceEqDiff, if_true, if_false]; rfl)
       case h => (first | exact hx .. | exact hc .. | exact hcl .. | exact hsp ..))
    | (apply cl_lend
       case hr => (simp only [List.map_cons, List.map_nil, hpL', lookR, Nat.reduceEqDiff, if_true, if_false]; first | exact map1 _ | exact map2 _ _ | exact map3 _ _ _)
       case ha => (simp only [List.map_cons, List.map_nil, prepV, prepC, idx, hpL', lookR, Nat.reduceEqDiff, if_true, if_false]; rfl)
       case hs => rfl
       case hn => decide
       case h => (first | exact hx .. | exact hc .. | exact hcl .. | exact hsp ..)
       case hf => (simp only [List.forall_mem_cons, List.not_mem_nil, false_implies, implies_true, and_true, true_and, flat_cons, flat_nil, flat_ints, flat_bools, flat_app, Its_flat, Cell.refs, and_self, eq_self_iff_true, List.append_nil])
       case hl => (simp only [List.length_cons, List.length_nil]; decide))
    | ((first | refine s1_id ?_ | refine swp_id ?_ | refine sops_id ?_ | refine s2_id ?_); simp only [decide_eq_false he, Its_ren, go_sem, Nat.reduceEqDiff, Nat.reduceAdd, Nat.reduceSub, Nat.reduceMul, Nat.reduceLT, Nat.reduceLeDiff, ↓reduceIte, reduceCtorEq, List.reduceReplicate, Int.cast_ofNat_Int, Int.reduceEq, Int.reduceLT, Int.reduceLE, SV.ren, SV.renL, Cell.ren, Row.ren, renO, bk, back, outUpsFrom, Ints_ren]))
        (refine fs_w (by simp only [go_sem, resV, resS, SV.ren, SV.renL, Cell.ren, St.tmF, St.hpF, idx, renO, Row.ren, evS, slot, lookR, Nat.reduceEqDiff, ↓reduceIte, reduceCtorEq, if_true, if_false, Option.getD_some, Option.getD_none, List.map_cons, List.map_nil, sLoad, readAt, readNeed, Ints_ren, Ints_length, Ints_getD, and_true, true_and, List.getD_cons_zero, List.getD_cons_succ]; try trivial) ?_; simp only [go_sem, resV, resS, SV.ren, SV.renL, Cell.ren, St.tmF, St.hpF, idx, renO, Row.ren, evS, slot, lookR, Nat.reduceEqDiff, ↓reduceIte, reduceCtorEq, if_true, if_false, Option.getD_some, Option.getD_none, List.map_cons, List.map_nil, sLoad, readAt, readNeed, Ints_ren, Ints_length, Ints_getD, and_true, true_and, List.getD_cons_zero, List.getD_cons_succ]; refine svw_of ?_; simp only [sw_tup, swl_cons, swl_nil, sw_one, sw_agg, cwl_cons, cwl_nil, cw_id, cw_nil0, cw_cap0, List.length_nil, and_true, true_and, and_self] <;> (try ((repeat' with_reducible apply And.intro) <;> (first | with_reducible trivial | exact cw_rfl _ | exact cw_gnil | exact cw_niln _ _ | exact cw_cap _ _ _ _ | (refine cw_eq ?_; congr; done)))))
theorem wake_spec (c : Int) (l : List It) (cap : Option Nat) (id : Int) (hl : l.length ≤ 4611686018427387904) : FnSpec Try.prog 14 [gqc c l cap, i1 id] [] (rq (chg c l id (wkF c l (bsV l id)))) [] := by
  have hch := ch_wake c l cap id hl
  generalize chg c l id (wkF c l (bsV l id)) = r at *
  refine fnspec_of mixed TT_ok TT_cl ⟨fun _ => false, fun _ => [], 0 , fun _ => false, fun i => if i = 1 then true else false⟩ Try.func14 rfl (by kernel_rfl) rfl 12 rfl [.cell 4 29, .tmp 5] rfl ?_
  simp only [go_sem, Nat.reduceEqDiff, Nat.reduceAdd, Nat.reduceSub, Nat.reduceMul, Nat.reduceLT, Nat.reduceLeDiff, ↓reduceIte, reduceCtorEq, List.reduceReplicate, Int.cast_ofNat_Int, Int.reduceEq, Int.reduceLT, Int.reduceLE]
  repeat' (first
    | ((first | refine s1_id ?_ | refine swp_id ?_ | refine sops_id ?_ | refine s2_id ?_); simp only [go_sem, Nat.reduceEqDiff, Nat.reduceAdd, Nat.reduceSub, Nat.reduceMul, Nat.reduceLT, Nat.reduceLeDiff, ↓reduceIte, reduceCtorEq, List.reduceReplicate, Int.cast_ofNat_Int, Int.reduceEq, Int.reduceLT, Int.reduceLE, SV.ren, SV.renL, Cell.ren, Row.ren, renO, bk, back, outUpsFrom, Ints_ren]))
  refine rgf_t ⟨[(1, i1 id), (2, .one (.gptr [int c, .gsl (Its l) 0 l.length cap] 0)), (4, .one (.optr 0 0))], [(0, some ⟨[int 0, .sc (.slice none 0 0)], 2⟩)], 1⟩ ?_ ?_
  · refine Imp.trans (imp_frz _ _ 0 ⟨[int c, .gsl (Its l) 0 l.length cap], 2⟩ (by simp only [St.hpF, lookR, Nat.reduceEqDiff, if_true, if_false, ↓reduceIte]) (by simp [Cell.isG])) ?_
    simp only [frzTm, SV.frz, SV.frzL, Cell.frz, frzHp, frzO, Its_frz, List.map_cons, List.map_nil, Nat.reduceEqDiff, if_true, if_false, ↓reduceIte]
    (refine imp_ren _ _ _ [(0, 1, ⟨[int 0, .sc (.slice none 0 0)], 2⟩)] (by simp) (by simp) (by simp) (Nat.le_of_ble_eq_true rfl) ?_ rfl (by simp only [List.forall_mem_cons, List.not_mem_nil, false_implies, implies_true, and_true, St.hpF, lookR, Nat.reduceEqDiff, if_true, if_false, ↓reduceIte] <;> (repeat' apply And.intro) <;> (first | rfl | trivial)) (by simp only [List.forall_mem_cons, List.not_mem_nil, false_implies, implies_true, and_true, true_and, flat_cons, flat_nil, flat_ints, flat_bools, flat_app, Cell.refs, and_self, eq_self_iff_true, List.append_nil]); simp only [List.map_cons, List.map_nil, List.forall_mem_cons, List.not_mem_nil, false_implies, implies_true, and_true, lk, slot, SV.ren, Cell.ren, toN, Nat.reduceEqDiff, if_true, if_false, ↓reduceIte, reduceCtorEq])
    all_goals ((repeat' apply And.intro) <;> (first | rfl | trivial))
  simp only [go_sem, Nat.reduceEqDiff, Nat.reduceAdd, Nat.reduceSub, Nat.reduceMul, Nat.reduceLT, Nat.reduceLeDiff, ↓reduceIte, reduceCtorEq, List.reduceReplicate, Int.cast_ofNat_Int, Int.reduceEq, Int.reduceLT, Int.reduceLE]
  repeat' (first
    | with_reducible refine And.intro ?_ ?_
    | (intros; (try simp only [Bool.and_eq_true, Bool.or_eq_true, Bool.not_eq_true', Bool.not_eq_false', Bool.and_eq_false_iff, Bool.or_eq_false_iff, decide_eq_true_eq, decide_eq_false_iff_not] at *); omega)
    | (apply cl_plain
       case hs => rfl
       case ha => (simp only [List.map_cons, List.map_nil, prepV, prepC, idx, hpL', lookR, Nat.reduceEqDiff, if_true, if_false]; rfl)
       case h => (first | exact hch ..))
    | ((first | refine s1_id ?_ | refine swp_id ?_ | refine sops_id ?_ | refine s2_id ?_); simp only [go_sem, Nat.reduceEqDiff, Nat.reduceAdd, Nat.reduceSub, Nat.reduceMul, Nat.reduceLT, Nat.reduceLeDiff, ↓reduceIte, reduceCtorEq, List.reduceReplicate, Int.cast_ofNat_Int, Int.reduceEq, Int.reduceLT, Int.reduceLE, SV.ren, SV.renL, Cell.ren, Row.ren, renO, bk, back, outUpsFrom, Ints_ren])
    | (apply fs_nil <;> (try simp only [go_sem, resV, resS, SV.ren, SV.renL, Cell.ren, St.tmF, St.hpF, idx, renO, Row.ren, evS, slot, lookR, Nat.reduceEqDiff, ↓reduceIte, reduceCtorEq, if_true, if_false, Option.getD_some, Option.getD_none, List.map_cons, List.map_nil, sLoad, readAt, readNeed, Ints_ren, Ints_length, Ints_getD, and_true, true_and, List.getD_cons_zero, List.getD_cons_succ]) <;> (try rfl)))
theorem serve_spec (c : Int) (l : List It) (cap : Option Nat) (id : Int) (hl : l.length ≤ 4611686018427387904) : FnSpec Try.prog 16 [gqc c l cap, i1 id] [] (rq (chg c l id (svF l (bsV l id)))) [] := by
  have hch := ch_serve c l cap id hl
  generalize chg c l id (svF l (bsV l id)) = r at *
  refine fnspec_of mixed TT_ok TT_cl ⟨fun _ => false, fun _ => [], 0, fun _ => false, fun _ => false⟩ Try.func16 rfl (by kernel_rfl) rfl 11 rfl [.cell 4 29, .tmp 5] rfl ?_
  simp only [go_sem, Nat.reduceEqDiff, Nat.reduceAdd, Nat.reduceSub, Nat.reduceMul, Nat.reduceLT, Nat.reduceLeDiff, ↓reduceIte, reduceCtorEq, List.reduceReplicate, Int.cast_ofNat_Int, Int.reduceEq, Int.reduceLT, Int.reduceLE]
  repeat' (first
    | with_reducible refine And.intro ?_ ?_
    | (intros; (try simp only [Bool.and_eq_true, Bool.or_eq_true, Bool.not_eq_true', Bool.not_eq_false', Bool.and_eq_false_iff, Bool.or_eq_false_iff, decide_eq_true_eq, decide_eq_false_iff_not] at *); omega)
    | (apply cl_plain
       case hs => rfl
       case ha => (simp only [List.map_cons, List.map_nil, prepV, prepC, idx, hpL', lookR, Nat.reduceEqDiff, if_true, if_false]; rfl)
       case h => (first | exact hch ..))
    | ((first | refine s1_id ?_ | refine swp_id ?_ | refine sops_id ?_ | refine s2_id ?_); simp only [go_sem, Nat.reduceEqDiff, Nat.reduceAdd, Nat.reduceSub, Nat.reduceMul, Nat.reduceLT, Nat.reduceLeDiff, ↓reduceIte, reduceCtorEq, List.reduceReplicate, Int.cast_ofNat_Int, Int.reduceEq, Int.reduceLT, Int.reduceLE, SV.ren, SV.renL, Cell.ren, Row.ren, renO, bk, back, outUpsFrom, Ints_ren])
    | (apply fs_nil <;> (try simp only [go_sem, resV, resS, SV.ren, SV.renL, Cell.ren, St.tmF, St.hpF, idx, renO, Row.ren, evS, slot, lookR, Nat.reduceEqDiff, ↓reduceIte, reduceCtorEq, if_true, if_false, Option.getD_some, Option.getD_none, List.map_cons, List.map_nil, sLoad, readAt, readNeed, Ints_ren, Ints_length, Ints_getD, and_true, true_and, List.getD_cons_zero, List.getD_cons_succ]) <;> (try rfl)))
def rwQ (c : Int) (l : List It) (id w : Int) : (Int × List It) × Int := if qck c l = true ∧ wok w = false then ((0, []), 3) else chg c l id (rwF c w l (bsV l id))
end Go.Proofs.Ytabanfgnnelfcaa
