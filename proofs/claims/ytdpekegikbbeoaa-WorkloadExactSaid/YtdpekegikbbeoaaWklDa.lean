/- Contracts of functions, told of values, on the way to WorkloadExact. -/
import Derived.Test.YtdpekegikbbeoaaTyDa
import Derived.Test.YtdpekegikbbeoaaWkkDa
-- NEWGO
-- PRUNE: cg_tp cg_ts cg_any cg_show cl_plain cl_lendx
-- ISG: Pgs_isG
-- FLAT: Pgs_flat
namespace Go.Proofs.Ytdpekegikbbeoaa
set_option linter.unusedVariables false
set_option linter.unusedSimpArgs false
open Go.Proofs.Ytdpekegikbbeoaa.Sh
set_option maxRecDepth 20000
set_option maxHeartbeats 4000000 in
theorem programs_own (l : List Int) (i : Nat) (hl6 : l.length ≤ 600) (hl : ∀ x ∈ l, -9223372036854775808 ≤ x ∧ x ≤ 9223372036854775807) :
    FnSpec Try.prog 14 [dp] [dice l i] (.one (.osl 1 0 (dPs l i).1.length none)) [some (dice l (dPs l i).2), some ⟨Pgs (dPs l i).1, 1⟩] := by
  have h4 := nxV_rng l i 4 (by omega)
  have e0 : dPs l i = dPg l (1 + nxV l i 4) (1 + nxV l i 4).toNat [] (nxA l i 4) := rfl
  generalize dPs l i = T at *
  refine fnspec_of mixed TT_ok TT_cl ⟨fun _ => false, lends, 1, fun _ => false, fun _ => false⟩ Try.func14 rfl (by kernel_rfl) rfl 36 rfl [.tmp 2] rfl ?_
  simp only [go_sem, Nat.reduceEqDiff, Nat.reduceAdd, Nat.reduceSub, Nat.reduceMul, Nat.reduceLT, Nat.reduceLeDiff, ↓reduceIte, reduceCtorEq, List.reduceReplicate, Int.cast_ofNat_Int, Int.reduceEq, Int.reduceLT, Int.reduceLE, lends]
  repeat' (first
    | with_reducible refine And.intro ?_ ?_
    | (unfold OKC; kernel_rfl)
    | (apply okc_up <;> (first | ((repeat (first | exact Sub.nil | apply Sub.gfp | apply Sub.same)); done) | kernel_rfl))
    | (unfold EDG; kernel_rfl)
    | (intros; (try simp only [Bool.and_eq_true, Bool.or_eq_true, Bool.not_eq_true', Bool.not_eq_false', Bool.and_eq_false_iff, Bool.or_eq_false_iff, decide_eq_true_eq, decide_eq_false_iff_not] at *); omega)
    | (refine gt_if (fun h => ?_) (fun h => ?_) <;> (try simp only [h]))
    | (refine pt_if (fun h => ?_) (fun h => ?_) <;> (try simp only [h]))
    | (refine cd_if (fun h => ?_) (fun h => ?_) <;> (try simp only [h]))
    | (apply cl_lend
       case hr => (simp only [List.map_cons, List.map_nil, hpL', lookR, Nat.reduceEqDiff, if_true, if_false]; first | exact map1 _ | exact map2 _ _ | exact map3 _ _ _)
       case ha => (simp only [List.map_cons, List.map_nil, prepV, prepC, idx, hpL', lookR, Nat.reduceEqDiff, if_true, if_false]; rfl)
       case hs => rfl
       case hn => decide
       case h => (first | exact next_spec _ _ _ hl6 hl (by omega))
       case hf => (simp only [List.forall_mem_cons, List.not_mem_nil, false_implies, implies_true, and_true, true_and, flat_cons, flat_nil, flat_ints, flat_bools, flat_app, Pgs_flat, Cell.refs, and_self, eq_self_iff_true, List.append_nil])
       case hl => (simp only [List.length_cons, List.length_nil]; decide))
    | (apply cl_show
       case ha => (simp only [List.map_cons, List.map_nil, prepV, prepC, idx, hpL', lookR, Nat.reduceEqDiff, if_true, if_false]; rfl)
       case hs => ((simp [snaps, SV.refs, Cell.refs, idx, hpL', lookR]) <;> (repeat' apply And.intro) <;> (first | exact Ints_isG _ | exact Pgs_isG _))
       case h => (first | exact next_spec _ _ _ hl6 hl (by omega))
       case hg => ((simp [SV.noG, SV.noGL, Cell.noG]) <;> (repeat' apply And.intro) <;> exact Ints_noG _))
    | (apply cl_use
       case hr => (simp only [List.map_cons, List.map_nil, hpL', lookR, Nat.reduceEqDiff, if_true, if_false]; first | exact map0 | exact map1 _ | exact map2 _ _ | exact map3 _ _ _)
       case ha => (simp only [List.map_cons, List.map_nil, prepV, prepC, idx, hpL', lookR, Nat.reduceEqDiff, if_true, if_false]; rfl)
       case hs => (simp only [snaps, SV.refs, Cell.refs, idx, List.flatMap_cons, List.flatMap_nil, List.nil_append, List.cons_append, List.append_nil, List.filter_cons, List.filter_nil, Nat.reduceEqDiff, if_true, if_false, Option.isNone_none, Option.isNone_some, Bool.false_eq_true, reduceCtorEq, ↓reduceIte]; rfl)
       case hn => decide
       case h => (first | exact next_spec _ _ _ hl6 hl (by omega))
       case hf => (simp only [List.forall_mem_cons, List.not_mem_nil, false_implies, implies_true, and_true, true_and, flat_cons, flat_nil, flat_ints, flat_bools, flat_app, Pgs_flat, Cell.refs, and_self, eq_self_iff_true, List.append_nil])
       case hg => ((simp [hpL', lookR, Cell.isG]) <;> (repeat' apply And.intro) <;> (first | exact Ints_isG _ | exact Pgs_isG _))
       case hl => (simp only [List.length_cons, List.length_nil]; decide))
    | ((first | refine s1_id ?_ | refine swp_id ?_ | refine sops_id ?_ | refine s2_id ?_); simp only [lends, go_sem, Nat.reduceEqDiff, Nat.reduceAdd, Nat.reduceSub, Nat.reduceMul, Nat.reduceLT, Nat.reduceLeDiff, ↓reduceIte, reduceCtorEq, List.reduceReplicate, Int.cast_ofNat_Int, Int.reduceEq, Int.reduceLT, Int.reduceLE, SV.ren, SV.renL, Cell.ren, Row.ren, renO, bk, back, outUpsFrom, Ints_ren]))
  generalize nxA l i 4 = i0 at *
  generalize hn : 1 + nxV l i 4 = n at *
  refine w_loop (ι := Nat × List (List Stp) × Nat) (fun s => ⟨[(0, dp), (3, i1 n), (4, .one (.osl 1 0 s.2.1.length none)), (5, i1 s.1)], [(0, some (dice l s.2.2)), (1, some ⟨Pgs s.2.1, 1⟩)], 2⟩) (fun s => s.1 ≤ n.toNat ∧ s.2.1.length = s.1 ∧ dPg l n (n.toNat - s.1) s.2.1 s.2.2 = T) (fun s => n.toNat - s.1) (0, [], i0) ?_ ⟨Nat.zero_le _, rfl, e0.symm⟩ ?_
  · refine Imp.trans (imp_nil _ _ 4 1 rfl) ?_
    (refine imp_ren _ _ _ [(0, 0, dice l i0), (1, 8, ⟨[], 1⟩)] (by simp) (by simp) (by simp) (Nat.le_of_ble_eq_true rfl) ?_ rfl (by simp only [List.forall_mem_cons, List.not_mem_nil, false_implies, implies_true, and_true, St.hpF, lookR, Nat.reduceEqDiff, if_true, if_false, ↓reduceIte, dice, Pgs_flat] <;> (repeat' apply And.intro) <;> (first | rfl | trivial)) (by simp only [List.forall_mem_cons, List.not_mem_nil, false_implies, implies_true, and_true, true_and, flat_cons, flat_nil, flat_ints, flat_bools, flat_app, Cell.refs, and_self, eq_self_iff_true, List.append_nil, dice, Pgs_flat]); simp only [List.map_cons, List.map_nil, List.forall_mem_cons, List.not_mem_nil, false_implies, implies_true, and_true, lk, slot, SV.ren, Cell.ren, toN, Nat.reduceEqDiff, if_true, if_false, ↓reduceIte, reduceCtorEq])
    all_goals ((repeat' apply And.intro) <;> (first | rfl | trivial))
  rintro ⟨j, out, i1'⟩ ⟨hj, ho, hT⟩
  simp only at hj ho hT ⊢
  rcases Nat.lt_or_ge j n.toNat with hlt | hge
  case inr =>
    have hlt' : ¬ (j : Int) < n := by omega
    have e : n.toNat - j = 0 := by omega
    rw [e] at hT
    simp only [dPg] at hT
    simp only [go_sem, Nat.reduceEqDiff, Nat.reduceAdd, Nat.reduceSub, Nat.reduceMul, Nat.reduceLT, Nat.reduceLeDiff, ↓reduceIte, reduceCtorEq, List.reduceReplicate, Int.cast_ofNat_Int, Int.reduceEq, Int.reduceLT, Int.reduceLE, decide_eq_false hlt', ← hT]
    repeat' (first
    | with_reducible refine And.intro ?_ ?_
    | (unfold OKC; kernel_rfl)
    | (apply okc_up <;> (first | ((repeat (first | exact Sub.nil | apply Sub.gfp | apply Sub.same)); done) | kernel_rfl))
    | (unfold EDG; kernel_rfl)
    | (intros; (try simp only [Bool.and_eq_true, Bool.or_eq_true, Bool.not_eq_true', Bool.not_eq_false', Bool.and_eq_false_iff, Bool.or_eq_false_iff, decide_eq_true_eq, decide_eq_false_iff_not] at *); omega)
    | (refine gt_if (fun h => ?_) (fun h => ?_) <;> (try simp only [h]))
    | (refine pt_if (fun h => ?_) (fun h => ?_) <;> (try simp only [h]))
    | (refine cd_if (fun h => ?_) (fun h => ?_) <;> (try simp only [h]))
    | (apply cl_lend
       case hr => (simp only [List.map_cons, List.map_nil, hpL', lookR, Nat.reduceEqDiff, if_true, if_false]; first | exact map1 _ | exact map2 _ _ | exact map3 _ _ _)
       case ha => (simp only [List.map_cons, List.map_nil, prepV, prepC, idx, hpL', lookR, Nat.reduceEqDiff, if_true, if_false]; rfl)
       case hs => rfl
       case hn => decide
       case h => (first | fail)
       case hf => (simp only [List.forall_mem_cons, List.not_mem_nil, false_implies, implies_true, and_true, true_and, flat_cons, flat_nil, flat_ints, flat_bools, flat_app, Pgs_flat, Cell.refs, and_self, eq_self_iff_true, List.append_nil])
       case hl => (simp only [List.length_cons, List.length_nil]; decide))
    | (apply cl_show
       case ha => (simp only [List.map_cons, List.map_nil, prepV, prepC, idx, hpL', lookR, Nat.reduceEqDiff, if_true, if_false]; rfl)
       case hs => ((simp [snaps, SV.refs, Cell.refs, idx, hpL', lookR]) <;> (repeat' apply And.intro) <;> (first | exact Ints_isG _ | exact Pgs_isG _))
       case h => (first | fail)
       case hg => ((simp [SV.noG, SV.noGL, Cell.noG]) <;> (repeat' apply And.intro) <;> exact Ints_noG _))
    | (apply cl_use
       case hr => (simp only [List.map_cons, List.map_nil, hpL', lookR, Nat.reduceEqDiff, if_true, if_false]; first | exact map0 | exact map1 _ | exact map2 _ _ | exact map3 _ _ _)
       case ha => (simp only [List.map_cons, List.map_nil, prepV, prepC, idx, hpL', lookR, Nat.reduceEqDiff, if_true, if_false]; rfl)
       case hs => (simp only [snaps, SV.refs, Cell.refs, idx, List.flatMap_cons, List.flatMap_nil, List.nil_append, List.cons_append, List.append_nil, List.filter_cons, List.filter_nil, Nat.reduceEqDiff, if_true, if_false, Option.isNone_none, Option.isNone_some, Bool.false_eq_true, reduceCtorEq, ↓reduceIte]; rfl)
       case hn => decide
       case h => (first | fail)
       case hf => (simp only [List.forall_mem_cons, List.not_mem_nil, false_implies, implies_true, and_true, true_and, flat_cons, flat_nil, flat_ints, flat_bools, flat_app, Pgs_flat, Cell.refs, and_self, eq_self_iff_true, List.append_nil])
       case hg => ((simp [hpL', lookR, Cell.isG]) <;> (repeat' apply And.intro) <;> (first | exact Ints_isG _ | exact Pgs_isG _))
       case hl => (simp only [List.length_cons, List.length_nil]; decide))
    | ((first | refine s1_id ?_ | refine swp_id ?_ | refine sops_id ?_ | refine s2_id ?_); simp only [decide_eq_false hlt', go_sem, Nat.reduceEqDiff, Nat.reduceAdd, Nat.reduceSub, Nat.reduceMul, Nat.reduceLT, Nat.reduceLeDiff, ↓reduceIte, reduceCtorEq, List.reduceReplicate, Int.cast_ofNat_Int, Int.reduceEq, Int.reduceLT, Int.reduceLE, SV.ren, SV.renL, Cell.ren, Row.ren, renO, bk, back, outUpsFrom, Ints_ren]))
    (refine fs_flat [(0, dice l i1'), (1, ⟨Pgs out, 1⟩)] (by simp) (by simp only [List.map_cons, List.map_nil]; decide) (by simp only [go_sem, resV, resS, SV.ren, SV.renL, Cell.ren, St.tmF, St.hpF, idx, renO, Row.ren, evS, slot, lookR, Nat.reduceEqDiff, ↓reduceIte, reduceCtorEq, if_true, if_false, Option.getD_some, Option.getD_none, List.map_cons, List.map_nil, sLoad, readAt, readNeed, Ints_ren, Ints_length, Ints_getD, and_true, true_and, List.getD_cons_zero, List.getD_cons_succ]; try decide) ?_ (by simp only [List.forall_mem_cons, List.not_mem_nil, false_implies, implies_true, and_true, St.hpF, lookR, Nat.reduceEqDiff, if_true, if_false, ↓reduceIte, dice, Pgs_flat] <;> (repeat' apply And.intro) <;> (first | rfl | trivial)) (by simp only [List.forall_mem_cons, List.not_mem_nil, false_implies, implies_true, and_true, true_and, flat_cons, flat_nil, flat_ints, flat_bools, flat_app, Cell.refs, and_self, eq_self_iff_true, List.append_nil, dice, Pgs_flat]) ?_ <;> (try simp only [go_sem, resV, resS, SV.ren, SV.renL, Cell.ren, St.tmF, St.hpF, idx, renO, Row.ren, evS, slot, lookR, Nat.reduceEqDiff, ↓reduceIte, reduceCtorEq, if_true, if_false, Option.getD_some, Option.getD_none, List.map_cons, List.map_nil, sLoad, readAt, readNeed, Ints_ren, Ints_length, Ints_getD, and_true, true_and, List.getD_cons_zero, List.getD_cons_succ]) <;> (try rfl))
  have hlt' : (j : Int) < n := by omega
  have h5 := nxV_rng l i1' 5 (by omega)
  obtain ⟨m, hm⟩ : ∃ m, n.toNat - j = m + 1 := ⟨n.toNat - j - 1, by omega⟩
  rw [hm] at hT
  simp only [dPg] at hT
  simp only [go_sem, Nat.reduceEqDiff, Nat.reduceAdd, Nat.reduceSub, Nat.reduceMul, Nat.reduceLT, Nat.reduceLeDiff, ↓reduceIte, reduceCtorEq, List.reduceReplicate, Int.cast_ofNat_Int, Int.reduceEq, Int.reduceLT, Int.reduceLE, decide_eq_true hlt', lends]
  repeat' (first
    | with_reducible refine And.intro ?_ ?_
    | (unfold OKC; kernel_rfl)
    | (apply okc_up <;> (first | ((repeat (first | exact Sub.nil | apply Sub.gfp | apply Sub.same)); done) | kernel_rfl))
    | (unfold EDG; kernel_rfl)
    | (intros; (try simp only [Bool.and_eq_true, Bool.or_eq_true, Bool.not_eq_true', Bool.not_eq_false', Bool.and_eq_false_iff, Bool.or_eq_false_iff, decide_eq_true_eq, decide_eq_false_iff_not] at *); omega)
    | (refine gt_if (fun h => ?_) (fun h => ?_) <;> (try simp only [h]))
    | (refine pt_if (fun h => ?_) (fun h => ?_) <;> (try simp only [h]))
    | (refine cd_if (fun h => ?_) (fun h => ?_) <;> (try simp only [h]))
    | (apply cl_lend
       case hr => (simp only [List.map_cons, List.map_nil, hpL', lookR, Nat.reduceEqDiff, if_true, if_false]; first | exact map1 _ | exact map2 _ _ | exact map3 _ _ _)
       case ha => (simp only [List.map_cons, List.map_nil, prepV, prepC, idx, hpL', lookR, Nat.reduceEqDiff, if_true, if_false]; rfl)
       case hs => rfl
       case hn => decide
       case h => (first | exact next_spec _ _ _ hl6 hl (by omega))
       case hf => (simp only [List.forall_mem_cons, List.not_mem_nil, false_implies, implies_true, and_true, true_and, flat_cons, flat_nil, flat_ints, flat_bools, flat_app, Pgs_flat, Cell.refs, and_self, eq_self_iff_true, List.append_nil])
       case hl => (simp only [List.length_cons, List.length_nil]; decide))
    | (apply cl_show
       case ha => (simp only [List.map_cons, List.map_nil, prepV, prepC, idx, hpL', lookR, Nat.reduceEqDiff, if_true, if_false]; rfl)
       case hs => ((simp [snaps, SV.refs, Cell.refs, idx, hpL', lookR]) <;> (repeat' apply And.intro) <;> (first | exact Ints_isG _ | exact Pgs_isG _))
       case h => (first | exact next_spec _ _ _ hl6 hl (by omega))
       case hg => ((simp [SV.noG, SV.noGL, Cell.noG]) <;> (repeat' apply And.intro) <;> exact Ints_noG _))
    | (apply cl_use
       case hr => (simp only [List.map_cons, List.map_nil, hpL', lookR, Nat.reduceEqDiff, if_true, if_false]; first | exact map0 | exact map1 _ | exact map2 _ _ | exact map3 _ _ _)
       case ha => (simp only [List.map_cons, List.map_nil, prepV, prepC, idx, hpL', lookR, Nat.reduceEqDiff, if_true, if_false]; rfl)
       case hs => (simp only [snaps, SV.refs, Cell.refs, idx, List.flatMap_cons, List.flatMap_nil, List.nil_append, List.cons_append, List.append_nil, List.filter_cons, List.filter_nil, Nat.reduceEqDiff, if_true, if_false, Option.isNone_none, Option.isNone_some, Bool.false_eq_true, reduceCtorEq, ↓reduceIte]; rfl)
       case hn => decide
       case h => (first | exact next_spec _ _ _ hl6 hl (by omega))
       case hf => (simp only [List.forall_mem_cons, List.not_mem_nil, false_implies, implies_true, and_true, true_and, flat_cons, flat_nil, flat_ints, flat_bools, flat_app, Pgs_flat, Cell.refs, and_self, eq_self_iff_true, List.append_nil])
       case hg => ((simp [hpL', lookR, Cell.isG]) <;> (repeat' apply And.intro) <;> (first | exact Ints_isG _ | exact Pgs_isG _))
       case hl => (simp only [List.length_cons, List.length_nil]; decide))
    | ((first | refine s1_id ?_ | refine swp_id ?_ | refine sops_id ?_ | refine s2_id ?_); simp only [decide_eq_true hlt', lends, go_sem, Nat.reduceEqDiff, Nat.reduceAdd, Nat.reduceSub, Nat.reduceMul, Nat.reduceLT, Nat.reduceLeDiff, ↓reduceIte, reduceCtorEq, List.reduceReplicate, Int.cast_ofNat_Int, Int.reduceEq, Int.reduceLT, Int.reduceLE, SV.ren, SV.renL, Cell.ren, Row.ren, renO, bk, back, outUpsFrom, Ints_ren]))
  generalize nxA l i1' 5 = i2 at *
  have hK : (1 : Int) + nxV l i1' 5 = ((1 + nxV l i1' 5).toNat : Nat) := by omega
  have hK5 : 1 ≤ (1 + nxV l i1' 5).toNat ∧ (1 + nxV l i1' 5).toNat ≤ 5 := by omega
  rw [hK]
  generalize (1 + nxV l i1' 5).toNat = K at *
  generalize hR : dPr l n K [] i2 = R at *
  refine w_loop (ι := Nat × List Stp × Nat) (fun s => ⟨[(0, dp), (3, i1 n), (4, .one (.osl 1 0 out.length none)), (5, i1 j), (6, .one (.optr 2 0)), (7, i1 s.1)], inH l out s, 4⟩) (fun s => s.1 ≤ 5 ∧ s.2.1.length + s.1 = K ∧ dPr l n s.1 s.2.1 s.2.2 = R) (fun s => s.1) (K, [], i2) ?_ ⟨hK5.2, by simp, hR⟩ ?_
  · have h0 : inH l out (K, [], i2) = [(0, some (dice l i2)), (1, some ⟨Pgs out, 1⟩), (2, some ⟨[.sc (.slice none 0 0)], 1⟩)] := by
      unfold inH; rw [if_neg (by show ¬ K = 0; omega), if_pos rfl]
    rw [h0]
    (refine imp_ren _ _ _ [(0, 0, dice l i2), (1, 1, ⟨Pgs out, 1⟩), (2, 5, ⟨[.sc (.slice none 0 0)], 1⟩)] (by simp) (by simp) (by simp) (Nat.le_of_ble_eq_true rfl) ?_ rfl (by simp only [List.forall_mem_cons, List.not_mem_nil, false_implies, implies_true, and_true, St.hpF, lookR, Nat.reduceEqDiff, if_true, if_false, ↓reduceIte, dice, Pgs_flat] <;> (repeat' apply And.intro) <;> (first | rfl | trivial)) (by simp only [List.forall_mem_cons, List.not_mem_nil, false_implies, implies_true, and_true, true_and, flat_cons, flat_nil, flat_ints, flat_bools, flat_app, Cell.refs, and_self, eq_self_iff_true, List.append_nil, dice, Pgs_flat]); simp only [List.map_cons, List.map_nil, List.forall_mem_cons, List.not_mem_nil, false_implies, implies_true, and_true, lk, slot, SV.ren, Cell.ren, toN, Nat.reduceEqDiff, if_true, if_false, ↓reduceIte, reduceCtorEq])
    all_goals ((repeat' apply And.intro) <;> (first | rfl | trivial))
  have hn4 : 1 ≤ n ∧ n ≤ 4 := by omega
  clear hK h5 h4
  rintro ⟨k, acc, i3⟩ ⟨hk, ha, hP⟩
  simp only at hk ha hP ⊢
  rcases Nat.eq_zero_or_pos k with hk0 | hk0
  · subst hk0
    have hlt2 : ¬ (0 : Int) < ((0 : Nat) : Int) := by omega
    have e : inH l out (0, acc, i3) = [(0, some (dice l i3)), (1, some ⟨Pgs out, 1⟩), (2, some ⟨[pgc acc], 1⟩)] := by unfold inH; rw [if_pos rfl]
    rw [e]
    simp only [dPr] at hP
    rw [← hP] at hT
    have hpl := Pgs_len out
    simp only [go_sem, Nat.reduceEqDiff, Nat.reduceAdd, Nat.reduceSub, Nat.reduceMul, Nat.reduceLT, Nat.reduceLeDiff, ↓reduceIte, reduceCtorEq, List.reduceReplicate, Int.cast_ofNat_Int, Int.reduceEq, Int.reduceLT, Int.reduceLE, decide_eq_false hlt2]
    have htp : List.take out.length (Pgs out) = Pgs out := List.take_of_length_le (by omega)
    repeat' (first
    | with_reducible refine And.intro ?_ ?_
    | (unfold OKC; kernel_rfl)
    | (apply okc_up <;> (first | ((repeat (first | exact Sub.nil | apply Sub.gfp | apply Sub.same)); done) | kernel_rfl))
    | (unfold EDG; kernel_rfl)
    | (intros; (try simp only [Bool.and_eq_true, Bool.or_eq_true, Bool.not_eq_true', Bool.not_eq_false', Bool.and_eq_false_iff, Bool.or_eq_false_iff, decide_eq_true_eq, decide_eq_false_iff_not] at *); omega)
    | (refine gt_if (fun h => ?_) (fun h => ?_) <;> (try simp only [h]))
    | (refine pt_if (fun h => ?_) (fun h => ?_) <;> (try simp only [h]))
    | (refine cd_if (fun h => ?_) (fun h => ?_) <;> (try simp only [h]))
    | (apply cl_lend
       case hr => (simp only [List.map_cons, List.map_nil, hpL', lookR, Nat.reduceEqDiff, if_true, if_false]; first | exact map1 _ | exact map2 _ _ | exact map3 _ _ _)
       case ha => (simp only [List.map_cons, List.map_nil, prepV, prepC, idx, hpL', lookR, Nat.reduceEqDiff, if_true, if_false]; rfl)
       case hs => rfl
       case hn => decide
       case h => (first | fail)
       case hf => (simp only [List.forall_mem_cons, List.not_mem_nil, false_implies, implies_true, and_true, true_and, flat_cons, flat_nil, flat_ints, flat_bools, flat_app, Pgs_flat, Cell.refs, and_self, eq_self_iff_true, List.append_nil])
       case hl => (simp only [List.length_cons, List.length_nil]; decide))
    | (apply cl_show
       case ha => (simp only [List.map_cons, List.map_nil, prepV, prepC, idx, hpL', lookR, Nat.reduceEqDiff, if_true, if_false]; rfl)
       case hs => ((simp [snaps, SV.refs, Cell.refs, idx, hpL', lookR]) <;> (repeat' apply And.intro) <;> (first | exact Ints_isG _ | exact Pgs_isG _))
       case h => (first | fail)
       case hg => ((simp [SV.noG, SV.noGL, Cell.noG]) <;> (repeat' apply And.intro) <;> exact Ints_noG _))
    | (apply cl_use
       case hr => (simp only [List.map_cons, List.map_nil, hpL', lookR, Nat.reduceEqDiff, if_true, if_false]; first | exact map0 | exact map1 _ | exact map2 _ _ | exact map3 _ _ _)
       case ha => (simp only [List.map_cons, List.map_nil, prepV, prepC, idx, hpL', lookR, Nat.reduceEqDiff, if_true, if_false]; rfl)
       case hs => (simp only [snaps, SV.refs, Cell.refs, idx, List.flatMap_cons, List.flatMap_nil, List.nil_append, List.cons_append, List.append_nil, List.filter_cons, List.filter_nil, Nat.reduceEqDiff, if_true, if_false, Option.isNone_none, Option.isNone_some, Bool.false_eq_true, reduceCtorEq, ↓reduceIte]; rfl)
       case hn => decide
       case h => (first | fail)
       case hf => (simp only [List.forall_mem_cons, List.not_mem_nil, false_implies, implies_true, and_true, true_and, flat_cons, flat_nil, flat_ints, flat_bools, flat_app, Pgs_flat, Cell.refs, and_self, eq_self_iff_true, List.append_nil])
       case hg => ((simp [hpL', lookR, Cell.isG]) <;> (repeat' apply And.intro) <;> (first | exact Ints_isG _ | exact Pgs_isG _))
       case hl => (simp only [List.length_cons, List.length_nil]; decide))
    | ((first | refine s1_id ?_ | refine swp_id ?_ | refine sops_id ?_ | refine s2_id ?_); simp only [decide_eq_false hlt2, hpl, htp, List.flatten_cons, List.flatten_nil, List.cons_append, List.nil_append, List.append_nil, List.set_cons_zero, List.set_cons_succ, List.length_cons, List.length_nil, List.take_succ_cons, List.take_zero, go_sem, Nat.reduceEqDiff, Nat.reduceAdd, Nat.reduceSub, Nat.reduceMul, Nat.reduceLT, Nat.reduceLeDiff, ↓reduceIte, reduceCtorEq, List.reduceReplicate, Int.cast_ofNat_Int, Int.reduceEq, Int.reduceLT, Int.reduceLE, SV.ren, SV.renL, Cell.ren, Row.ren, renO, bk, back, outUpsFrom, Ints_ren]))
    refine le_mk (j + 1, out ++ [acc], i3) ?_ ⟨by show j + 1 ≤ n.toNat; omega, by simp [ho], by
      have e2 : n.toNat - (j + 1) = m := by omega
      show dPg l n (n.toNat - (j + 1)) (out ++ [acc]) i3 = T
      rw [e2]; exact hT⟩ (by show n.toNat - (j + 1) < n.toNat - j; omega)
    have hap := Pgs_app out acc
    (refine imp_ren _ _ _ [(0, 0, dice l i3), (1, 9, ⟨Pgs (out ++ [acc]), 1⟩)] (by simp) (by simp) (by simp) (Nat.le_of_ble_eq_true rfl) ?_ rfl (by simp only [List.forall_mem_cons, List.not_mem_nil, false_implies, implies_true, and_true, St.hpF, lookR, Nat.reduceEqDiff, if_true, if_false, ↓reduceIte, dice, Pgs_flat, htp, hap] <;> (repeat' apply And.intro) <;> (first | rfl | trivial)) (by simp only [List.forall_mem_cons, List.not_mem_nil, false_implies, implies_true, and_true, true_and, flat_cons, flat_nil, flat_ints, flat_bools, flat_app, Cell.refs, and_self, eq_self_iff_true, List.append_nil, dice, Pgs_flat, htp, hap]); simp only [List.map_cons, List.map_nil, List.forall_mem_cons, List.not_mem_nil, false_implies, implies_true, and_true, lk, slot, SV.ren, Cell.ren, toN, Nat.reduceEqDiff, if_true, if_false, ↓reduceIte, reduceCtorEq])
    all_goals ((repeat' apply And.intro) <;> (first | rfl | trivial | (simp only [List.length_append, List.length_cons, List.length_nil, Int.natCast_add]; done) | (simp only [List.length_append, List.length_cons, List.length_nil, Int.natCast_add]; rfl) | (simp only [List.length_append, List.length_cons, List.length_nil, Int.natCast_add]; trivial)))
  obtain ⟨k', rfl⟩ : ∃ k', k = k' + 1 := ⟨k - 1, by omega⟩
  have hlt2 : (0 : Int) < ((k' + 1 : Nat) : Int) := by omega
  have hst := step_spec l i3 n hl6 hl (by omega)
  simp only [dPr] at hP
  have hkk : ((k' + 1 : Nat) : Int) - 1 = (k' : Int) := by omega
  generalize hx : dStep l i3 n = x at *
  by_cases hac : acc = []
  · have e : inH l out (k' + 1, acc, i3) = [(0, some (dice l i3)), (1, some ⟨Pgs out, 1⟩), (2, some ⟨[.sc (.slice none 0 0)], 1⟩)] := by unfold inH; rw [if_neg (by show ¬ k' + 1 = 0; omega), if_pos hac]
    rw [e]
    subst hac
    simp only [go_sem, Nat.reduceEqDiff, Nat.reduceAdd, Nat.reduceSub, Nat.reduceMul, Nat.reduceLT, Nat.reduceLeDiff, ↓reduceIte, reduceCtorEq, List.reduceReplicate, Int.cast_ofNat_Int, Int.reduceEq, Int.reduceLT, Int.reduceLE, decide_eq_true hlt2, lends]
    repeat' (first
    | with_reducible refine And.intro ?_ ?_
    | (unfold OKC; kernel_rfl)
    | (apply okc_up <;> (first | ((repeat (first | exact Sub.nil | apply Sub.gfp | apply Sub.same)); done) | kernel_rfl))
    | (unfold EDG; kernel_rfl)
    | (intros; (try simp only [Bool.and_eq_true, Bool.or_eq_true, Bool.not_eq_true', Bool.not_eq_false', Bool.and_eq_false_iff, Bool.or_eq_false_iff, decide_eq_true_eq, decide_eq_false_iff_not] at *); omega)
    | (refine gt_if (fun h => ?_) (fun h => ?_) <;> (try simp only [h]))
    | (refine pt_if (fun h => ?_) (fun h => ?_) <;> (try simp only [h]))
    | (refine cd_if (fun h => ?_) (fun h => ?_) <;> (try simp only [h]))
    | (apply cl_lend
       case hr => (simp only [List.map_cons, List.map_nil, hpL', lookR, Nat.reduceEqDiff, if_true, if_false]; first | exact map1 _ | exact map2 _ _ | exact map3 _ _ _)
       case ha => (simp only [List.map_cons, List.map_nil, prepV, prepC, idx, hpL', lookR, Nat.reduceEqDiff, if_true, if_false]; rfl)
       case hs => rfl
       case hn => decide
       case h => (first | exact hst ..)
       case hf => (simp only [List.forall_mem_cons, List.not_mem_nil, false_implies, implies_true, and_true, true_and, flat_cons, flat_nil, flat_ints, flat_bools, flat_app, Pgs_flat, Cell.refs, and_self, eq_self_iff_true, List.append_nil])
       case hl => (simp only [List.length_cons, List.length_nil]; decide))
    | (apply cl_show
       case ha => (simp only [List.map_cons, List.map_nil, prepV, prepC, idx, hpL', lookR, Nat.reduceEqDiff, if_true, if_false]; rfl)
       case hs => ((simp [snaps, SV.refs, Cell.refs, idx, hpL', lookR]) <;> (repeat' apply And.intro) <;> (first | exact Ints_isG _ | exact Pgs_isG _))
       case h => (first | exact hst ..)
       case hg => ((simp [SV.noG, SV.noGL, Cell.noG]) <;> (repeat' apply And.intro) <;> exact Ints_noG _))
    | (apply cl_use
       case hr => (simp only [List.map_cons, List.map_nil, hpL', lookR, Nat.reduceEqDiff, if_true, if_false]; first | exact map0 | exact map1 _ | exact map2 _ _ | exact map3 _ _ _)
       case ha => (simp only [List.map_cons, List.map_nil, prepV, prepC, idx, hpL', lookR, Nat.reduceEqDiff, if_true, if_false]; rfl)
       case hs => (simp only [snaps, SV.refs, Cell.refs, idx, List.flatMap_cons, List.flatMap_nil, List.nil_append, List.cons_append, List.append_nil, List.filter_cons, List.filter_nil, Nat.reduceEqDiff, if_true, if_false, Option.isNone_none, Option.isNone_some, Bool.false_eq_true, reduceCtorEq, ↓reduceIte]; rfl)
       case hn => decide
       case h => (first | exact hst ..)
       case hf => (simp only [List.forall_mem_cons, List.not_mem_nil, false_implies, implies_true, and_true, true_and, flat_cons, flat_nil, flat_ints, flat_bools, flat_app, Pgs_flat, Cell.refs, and_self, eq_self_iff_true, List.append_nil])
       case hg => ((simp [hpL', lookR, Cell.isG]) <;> (repeat' apply And.intro) <;> (first | exact Ints_isG _ | exact Pgs_isG _))
       case hl => (simp only [List.length_cons, List.length_nil]; decide))
    | ((first | refine s1_id ?_ | refine swp_id ?_ | refine sops_id ?_ | refine s2_id ?_); simp only [decide_eq_true hlt2, lends, List.flatten_cons, List.flatten_nil, List.cons_append, List.nil_append, List.append_nil, List.set_cons_zero, List.set_cons_succ, List.length_cons, List.length_nil, List.take_succ_cons, List.take_zero, go_sem, Nat.reduceEqDiff, Nat.reduceAdd, Nat.reduceSub, Nat.reduceMul, Nat.reduceLT, Nat.reduceLeDiff, ↓reduceIte, reduceCtorEq, List.reduceReplicate, Int.cast_ofNat_Int, Int.reduceEq, Int.reduceLT, Int.reduceLE, SV.ren, SV.renL, Cell.ren, Row.ren, renO, bk, back, outUpsFrom, Ints_ren]))
    refine le_mk (k', [] ++ [x.1], x.2) ?_ ⟨by show k' ≤ 5; omega, by show 1 + k' = K; simp only [List.length_nil] at ha; omega, hP⟩ (by show k' < k' + 1; omega)
    rcases Nat.eq_zero_or_pos k' with hk0' | hk0'
    · subst hk0'
      have e2 : inH l out (0, [] ++ [x.1], x.2) = [(0, some (dice l x.2)), (1, some ⟨Pgs out, 1⟩), (2, some ⟨[.gsl [int x.1.k, int x.1.n, int x.1.a, int x.1.t] 0 1 none], 1⟩)] := by unfold inH; rw [if_pos rfl]; rfl
      rw [e2]
      refine Imp.trans (imp_frz _ _ 12 ⟨[int x.1.k, int x.1.n, int x.1.a, int x.1.t], 4⟩ (by simp only [St.hpF, lookR, Nat.reduceEqDiff, if_true, if_false, ↓reduceIte]) (by simp [Cell.isG])) ?_
      simp only [frzTm, SV.frz, SV.frzL, Cell.frz, frzHp, frzO, Ints_frz, Pgs_frz, List.map_cons, List.map_nil, Nat.reduceEqDiff, if_true, if_false, ↓reduceIte, dice]
      (refine imp_ren _ _ _ [(0, 0, dice l x.2), (1, 1, ⟨Pgs out, 1⟩), (2, 2, ⟨[.gsl [int x.1.k, int x.1.n, int x.1.a, int x.1.t] 0 1 none], 1⟩)] (by simp) (by simp) (by simp) (Nat.le_of_ble_eq_true rfl) ?_ rfl (by simp only [List.forall_mem_cons, List.not_mem_nil, false_implies, implies_true, and_true, St.hpF, lookR, Nat.reduceEqDiff, if_true, if_false, ↓reduceIte, dice, Pgs_flat] <;> (repeat' apply And.intro) <;> (first | rfl | trivial)) (by simp only [List.forall_mem_cons, List.not_mem_nil, false_implies, implies_true, and_true, true_and, flat_cons, flat_nil, flat_ints, flat_bools, flat_app, Cell.refs, and_self, eq_self_iff_true, List.append_nil, dice, Pgs_flat]); simp only [List.map_cons, List.map_nil, List.forall_mem_cons, List.not_mem_nil, false_implies, implies_true, and_true, lk, slot, SV.ren, Cell.ren, toN, Nat.reduceEqDiff, if_true, if_false, ↓reduceIte, reduceCtorEq])
      all_goals ((repeat' apply And.intro) <;> (first | rfl | trivial | (simp only [hkk]; done) | (simp only [hkk]; rfl) | (simp only [hkk]; trivial)))
    · have e2 : inH l out (k', [] ++ [x.1], x.2) = [(0, some (dice l x.2)), (1, some ⟨Pgs out, 1⟩), (2, some ⟨[.osl 3 0 1 none], 1⟩), (3, some ⟨[int x.1.k, int x.1.n, int x.1.a, int x.1.t], 4⟩)] := by unfold inH; rw [if_neg (by show ¬ k' = 0; omega), if_neg (by simp)]; rfl
      rw [e2]
      (refine imp_sub _ _ _ [(0, 0), (1, 1), (2, 2), (3, 12)] (by simp) (by simp) (by simp) (Nat.le_of_ble_eq_true rfl) ?_ (by simp only [List.map_cons, List.map_nil, St.hpF, lookR, renO, Row.ren, Cell.ren, toN, Ints_ren, Bools_ren, Nat.reduceEqDiff, if_true, if_false, ↓reduceIte, dice, Pgs_ren, Pgs_flat] <;> (try rfl)) (by simp only [List.forall_mem_cons, List.not_mem_nil, false_implies, implies_true, and_true, St.hpF, lookR, Nat.reduceEqDiff, if_true, if_false, ↓reduceIte, Option.some.injEq, forall_eq'] <;> ((repeat' with_reducible apply And.intro) <;> (first | with_reducible trivial | exact fun c hc q hq => absurd hq (Ints_refs0 _ _ c hc) | exact fun c hc q hq => absurd hq (by rw [Pgs_flat _ c hc]; exact List.not_mem_nil) | (simp [Cell.refs, toN]; done)))); simp only [List.map_cons, List.map_nil, List.forall_mem_cons, List.not_mem_nil, false_implies, implies_true, and_true, lk, slot, SV.ren, Cell.ren, toN, Nat.reduceEqDiff, if_true, if_false, ↓reduceIte, reduceCtorEq])
      all_goals ((repeat' apply And.intro) <;> (first | rfl | trivial | (simp only [hkk]; done) | (simp only [hkk]; rfl) | (simp only [hkk]; trivial)))
  · have e : inH l out (k' + 1, acc, i3) = [(0, some (dice l i3)), (1, some ⟨Pgs out, 1⟩), (2, some ⟨[.osl 3 0 acc.length none], 1⟩), (3, some ⟨Stps acc, 4⟩)] := by unfold inH; rw [if_neg (by show ¬ k' + 1 = 0; omega), if_neg hac]
    rw [e]
    have hsl := Stps_len acc
    simp only [go_sem, Nat.reduceEqDiff, Nat.reduceAdd, Nat.reduceSub, Nat.reduceMul, Nat.reduceLT, Nat.reduceLeDiff, ↓reduceIte, reduceCtorEq, List.reduceReplicate, Int.cast_ofNat_Int, Int.reduceEq, Int.reduceLT, Int.reduceLE, decide_eq_true hlt2, lends]
    have hts : List.take (acc.length * 4) (Stps acc) = Stps acc := List.take_of_length_le (by omega)
    have hap : Stps acc ++ [int x.1.k, int x.1.n, int x.1.a, int x.1.t] = Stps (acc ++ [x.1]) := Stps_app acc x.1
    have hla : (acc ++ [x.1]).length = acc.length + 1 := by simp
    repeat' (first
    | with_reducible refine And.intro ?_ ?_
    | (unfold OKC; kernel_rfl)
    | (apply okc_up <;> (first | ((repeat (first | exact Sub.nil | apply Sub.gfp | apply Sub.same)); done) | kernel_rfl))
    | (unfold EDG; kernel_rfl)
    | (intros; (try simp only [Bool.and_eq_true, Bool.or_eq_true, Bool.not_eq_true', Bool.not_eq_false', Bool.and_eq_false_iff, Bool.or_eq_false_iff, decide_eq_true_eq, decide_eq_false_iff_not] at *); omega)
    | (refine gt_if (fun h => ?_) (fun h => ?_) <;> (try simp only [h]))
    | (refine pt_if (fun h => ?_) (fun h => ?_) <;> (try simp only [h]))
    | (refine cd_if (fun h => ?_) (fun h => ?_) <;> (try simp only [h]))
    | (apply cl_lend
       case hr => (simp only [List.map_cons, List.map_nil, hpL', lookR, Nat.reduceEqDiff, if_true, if_false]; first | exact map1 _ | exact map2 _ _ | exact map3 _ _ _)
       case ha => (simp only [List.map_cons, List.map_nil, prepV, prepC, idx, hpL', lookR, Nat.reduceEqDiff, if_true, if_false]; rfl)
       case hs => rfl
       case hn => decide
       case h => (first | exact hst ..)
       case hf => (simp only [List.forall_mem_cons, List.not_mem_nil, false_implies, implies_true, and_true, true_and, flat_cons, flat_nil, flat_ints, flat_bools, flat_app, Pgs_flat, Cell.refs, and_self, eq_self_iff_true, List.append_nil])
       case hl => (simp only [List.length_cons, List.length_nil]; decide))
    | (apply cl_show
       case ha => (simp only [List.map_cons, List.map_nil, prepV, prepC, idx, hpL', lookR, Nat.reduceEqDiff, if_true, if_false]; rfl)
       case hs => ((simp [snaps, SV.refs, Cell.refs, idx, hpL', lookR]) <;> (repeat' apply And.intro) <;> (first | exact Ints_isG _ | exact Pgs_isG _))
       case h => (first | exact hst ..)
       case hg => ((simp [SV.noG, SV.noGL, Cell.noG]) <;> (repeat' apply And.intro) <;> exact Ints_noG _))
    | (apply cl_use
       case hr => (simp only [List.map_cons, List.map_nil, hpL', lookR, Nat.reduceEqDiff, if_true, if_false]; first | exact map0 | exact map1 _ | exact map2 _ _ | exact map3 _ _ _)
       case ha => (simp only [List.map_cons, List.map_nil, prepV, prepC, idx, hpL', lookR, Nat.reduceEqDiff, if_true, if_false]; rfl)
       case hs => (simp only [snaps, SV.refs, Cell.refs, idx, List.flatMap_cons, List.flatMap_nil, List.nil_append, List.cons_append, List.append_nil, List.filter_cons, List.filter_nil, Nat.reduceEqDiff, if_true, if_false, Option.isNone_none, Option.isNone_some, Bool.false_eq_true, reduceCtorEq, ↓reduceIte]; rfl)
       case hn => decide
       case h => (first | exact hst ..)
       case hf => (simp only [List.forall_mem_cons, List.not_mem_nil, false_implies, implies_true, and_true, true_and, flat_cons, flat_nil, flat_ints, flat_bools, flat_app, Pgs_flat, Cell.refs, and_self, eq_self_iff_true, List.append_nil])
       case hg => ((simp [hpL', lookR, Cell.isG]) <;> (repeat' apply And.intro) <;> (first | exact Ints_isG _ | exact Pgs_isG _))
       case hl => (simp only [List.length_cons, List.length_nil]; decide))
    | ((first | refine s1_id ?_ | refine swp_id ?_ | refine sops_id ?_ | refine s2_id ?_); simp only [decide_eq_true hlt2, lends, hsl, hts, List.flatten_cons, List.flatten_nil, List.cons_append, List.nil_append, List.append_nil, List.set_cons_zero, List.set_cons_succ, List.length_cons, List.length_nil, List.take_succ_cons, List.take_zero, hap, go_sem, Nat.reduceEqDiff, Nat.reduceAdd, Nat.reduceSub, Nat.reduceMul, Nat.reduceLT, Nat.reduceLeDiff, ↓reduceIte, reduceCtorEq, List.reduceReplicate, Int.cast_ofNat_Int, Int.reduceEq, Int.reduceLT, Int.reduceLE, SV.ren, SV.renL, Cell.ren, Row.ren, renO, bk, back, outUpsFrom, Ints_ren]))
    refine le_mk (k', acc ++ [x.1], x.2) ?_ ⟨by show k' ≤ 5; omega, by show (acc ++ [x.1]).length + k' = K; omega, hP⟩ (by show k' < k' + 1; omega)
    rcases Nat.eq_zero_or_pos k' with hk0' | hk0'
    · subst hk0'
      have e2 : inH l out (0, acc ++ [x.1], x.2) = [(0, some (dice l x.2)), (1, some ⟨Pgs out, 1⟩), (2, some ⟨[.gsl (Stps (acc ++ [x.1])) 0 (acc.length + 1) none], 1⟩)] := by unfold inH; rw [if_pos rfl, pgc, hla]
      rw [e2]
      refine Imp.trans (imp_frz _ _ 12 ⟨Stps (acc ++ [x.1]), 4⟩ (by simp only [St.hpF, lookR, Nat.reduceEqDiff, if_true, if_false, ↓reduceIte]) (Stps_isG _)) ?_
      simp only [frzTm, SV.frz, SV.frzL, Cell.frz, frzHp, frzO, Ints_frz, Pgs_frz, Stps_frz, List.map_cons, List.map_nil, Nat.reduceEqDiff, if_true, if_false, ↓reduceIte, dice]
      (refine imp_ren _ _ _ [(0, 0, dice l x.2), (1, 1, ⟨Pgs out, 1⟩), (2, 2, ⟨[.gsl (Stps (acc ++ [x.1])) 0 (acc.length + 1) none], 1⟩)] (by simp) (by simp) (by simp) (Nat.le_of_ble_eq_true rfl) ?_ rfl (by simp only [List.forall_mem_cons, List.not_mem_nil, false_implies, implies_true, and_true, St.hpF, lookR, Nat.reduceEqDiff, if_true, if_false, ↓reduceIte, dice, Pgs_flat] <;> (repeat' apply And.intro) <;> (first | rfl | trivial)) (by simp only [List.forall_mem_cons, List.not_mem_nil, false_implies, implies_true, and_true, true_and, flat_cons, flat_nil, flat_ints, flat_bools, flat_app, Cell.refs, and_self, eq_self_iff_true, List.append_nil, dice, Pgs_flat]); simp only [List.map_cons, List.map_nil, List.forall_mem_cons, List.not_mem_nil, false_implies, implies_true, and_true, lk, slot, SV.ren, Cell.ren, toN, Nat.reduceEqDiff, if_true, if_false, ↓reduceIte, reduceCtorEq])
      all_goals ((repeat' apply And.intro) <;> (first | rfl | trivial | (simp only [hkk]; done) | (simp only [hkk]; rfl) | (simp only [hkk]; trivial)))
    · have e2 : inH l out (k', acc ++ [x.1], x.2) = [(0, some (dice l x.2)), (1, some ⟨Pgs out, 1⟩), (2, some ⟨[.osl 3 0 (acc.length + 1) none], 1⟩), (3, some ⟨Stps (acc ++ [x.1]), 4⟩)] := by unfold inH; rw [if_neg (by show ¬ k' = 0; omega), if_neg (by simp), hla]
      rw [e2]
      (refine imp_sub _ _ _ [(0, 0), (1, 1), (2, 2), (3, 12)] (by simp) (by simp) (by simp) (Nat.le_of_ble_eq_true rfl) ?_ (by simp only [List.map_cons, List.map_nil, St.hpF, lookR, renO, Row.ren, Cell.ren, toN, Ints_ren, Bools_ren, Nat.reduceEqDiff, if_true, if_false, ↓reduceIte, dice, Pgs_ren, Stps_ren, Pgs_flat, Stps_flat] <;> (try rfl)) (by simp only [List.forall_mem_cons, List.not_mem_nil, false_implies, implies_true, and_true, St.hpF, lookR, Nat.reduceEqDiff, if_true, if_false, ↓reduceIte, Option.some.injEq, forall_eq'] <;> ((repeat' with_reducible apply And.intro) <;> (first | with_reducible trivial | exact fun c hc q hq => absurd hq (Ints_refs0 _ _ c hc) | exact fun c hc q hq => absurd hq (by rw [Pgs_flat _ c hc]; exact List.not_mem_nil) | exact fun c hc q hq => absurd hq (by rw [Stps_flat _ c hc]; exact List.not_mem_nil) | (simp [Cell.refs, toN]; done)))); simp only [List.map_cons, List.map_nil, List.forall_mem_cons, List.not_mem_nil, false_implies, implies_true, and_true, lk, slot, SV.ren, Cell.ren, toN, Nat.reduceEqDiff, if_true, if_false, ↓reduceIte, reduceCtorEq])
      all_goals ((repeat' apply And.intro) <;> (first | rfl | trivial | (simp only [hkk]; done) | (simp only [hkk]; rfl) | (simp only [hkk]; trivial)))
set_option maxHeartbeats 8000000 in
theorem runner_own (p : List (List Stp)) (l : List Int) (i : Nat) (hl6 : l.length ≤ 600) (hl : ∀ x ∈ l, -9223372036854775808 ≤ x ∧ x ≤ 9223372036854775807) (hv : vOk p = true) (h1 : 1 ≤ p.length) :
    FnSpec Try.prog 15 [dp, .one (.osl 1 0 p.length none)] [dice l i, ⟨Pgs p, 1⟩] (rrt (rnB l (rn0 p l i)).1) [some (dice l (rnB l (rn0 p l i)).2), some ⟨Pgs p, 1⟩] := by
  have hv' := vOk_iff hv
  have hpl := Pgs_len p
  have hp : p.length ≤ 9223372036854775807 := by omega
  have ht := nxV_rng l i 5 (by omega)
  have n5 := next_spec l i 5 hl6 hl (by omega)
  have hq := nxV_rng l (nxA l i 5) p.length (by omega)
  have nq := next_spec l (nxA l i 5) p.length hl6 hl (by omega)
  have h7 := nxV_rng l (nxA l (nxA l i 5) p.length) 7 (by omega)
  have n7 := next_spec l (nxA l (nxA l i 5) p.length) 7 hl6 hl (by omega)
  have hT : rn0 p l i = rnL p l (nxV l (nxA l (nxA l i 5) p.length) 7).toNat (gTo p ⟨1 + nxV l i 5, nxV l (nxA l i 5) p.length, 0, 0, 0, 0⟩ 0, nxA l (nxA l (nxA l i 5) p.length) 7) := rfl
  generalize rn0 p l i = T at *
  generalize nxV l i 5 = t at *
  generalize nxA l i 5 = j1 at *
  generalize nxV l j1 p.length = k at *
  generalize nxA l j1 p.length = j2 at *
  obtain ⟨K, hK⟩ : ∃ K : Nat, nxV l j2 7 = K := ⟨(nxV l j2 7).toNat, by omega⟩
  rw [hK] at n7 h7 hT
  rw [Int.toNat_natCast] at hT
  generalize nxA l j2 7 = j3 at *
  have hs := rstart_spec p none (1 + t) k hp
  have e1 : pstart p (1 + t) k = (gTo p ⟨1 + t, k, 0, 0, 0, 0⟩ 0, 0) := by
    unfold pstart
    rw [if_neg (by simp [hv]), if_neg (by rw [wi_iff.2 (show 0 ≤ k ∧ k ≤ p.length - 1 by omega)]; simp), if_neg (by rw [wi_iff.2 (show 1 ≤ 1 + t ∧ 1 + t ≤ 2147483647 by omega)]; simp)]
  rw [e1] at hs
  have hg := (snd_gTo (p := p) (r := ⟨1 + t, k, 0, 0, 0, 0⟩) (a := 0) hv (by show 1 ≤ 1 + t ∧ 1 + t ≤ 2147483647; omega) hq (by omega)).1
  generalize gTo p ⟨1 + t, k, 0, 0, 0, 0⟩ 0 = r0 at *
  have wr0 : ∀ r, rrt r = .agg [int r.t, int r.p, int r.a, int r.l, int r.s, int r.u] := fun r => rfl
  simp only [rre, wr0] at hs
  refine fnspec_of mixed TT_ok TT_cl ⟨fun _ => false, lends, 2, fun _ => false, fun _ => false⟩ Try.func15 rfl (by kernel_rfl) rfl 82 rfl [.cell 4 34] rfl ?_
  simp only [go_sem, Nat.reduceEqDiff, Nat.reduceAdd, Nat.reduceSub, Nat.reduceMul, Nat.reduceLT, Nat.reduceLeDiff, ↓reduceIte, reduceCtorEq, List.reduceReplicate, Int.cast_ofNat_Int, Int.reduceEq, Int.reduceLT, Int.reduceLE, lends]
  repeat' (first
    | with_reducible refine And.intro ?_ ?_
    | (unfold OKC; kernel_rfl)
    | (apply okc_up <;> (first | ((repeat (first | exact Sub.nil | apply Sub.gfp | apply Sub.same)); done) | kernel_rfl))
    | (unfold EDG; kernel_rfl)
    | (intros; (try simp only [Bool.and_eq_true, Bool.or_eq_true, Bool.not_eq_true', Bool.not_eq_false', Bool.and_eq_false_iff, Bool.or_eq_false_iff, decide_eq_true_eq, decide_eq_false_iff_not] at *); omega)
    | (refine gt_if (fun h => ?_) (fun h => ?_) <;> (try simp only [h]))
    | (refine pt_if (fun h => ?_) (fun h => ?_) <;> (try simp only [h]))
    | (refine cd_if (fun h => ?_) (fun h => ?_) <;> (try simp only [h]))
    | (apply cl_lend
       case hr => (simp only [List.map_cons, List.map_nil, hpL', lookR, Nat.reduceEqDiff, if_true, if_false]; first | exact map1 _ | exact map2 _ _ | exact map3 _ _ _)
       case ha => (simp only [List.map_cons, List.map_nil, prepV, prepC, idx, hpL', lookR, Nat.reduceEqDiff, if_true, if_false]; rfl)
       case hs => rfl
       case hn => decide
       case h => (first | exact n5 .. | exact nq .. | exact n7 .. | exact hs ..)
       case hf => (simp only [List.forall_mem_cons, List.not_mem_nil, false_implies, implies_true, and_true, true_and, flat_cons, flat_nil, flat_ints, flat_bools, flat_app, Pgs_flat, Cell.refs, and_self, eq_self_iff_true, List.append_nil])
       case hl => (simp only [List.length_cons, List.length_nil]; decide))
    | (apply cl_show
       case ha => (simp only [List.map_cons, List.map_nil, prepV, prepC, idx, hpL', lookR, Nat.reduceEqDiff, if_true, if_false]; rfl)
       case hs => ((simp [snaps, SV.refs, Cell.refs, idx, hpL', lookR]) <;> (repeat' apply And.intro) <;> (first | exact Ints_isG _ | exact Pgs_isG _))
       case h => (first | exact n5 .. | exact nq .. | exact n7 .. | exact hs ..)
       case hg => ((simp [SV.noG, SV.noGL, Cell.noG]) <;> (repeat' apply And.intro) <;> exact Ints_noG _))
    | (apply cl_use
       case hr => (simp only [List.map_cons, List.map_nil, hpL', lookR, Nat.reduceEqDiff, if_true, if_false]; first | exact map0 | exact map1 _ | exact map2 _ _ | exact map3 _ _ _)
       case ha => (simp only [List.map_cons, List.map_nil, prepV, prepC, idx, hpL', lookR, Nat.reduceEqDiff, if_true, if_false]; rfl)
       case hs => (simp only [snaps, SV.refs, Cell.refs, idx, List.flatMap_cons, List.flatMap_nil, List.nil_append, List.cons_append, List.append_nil, List.filter_cons, List.filter_nil, Nat.reduceEqDiff, if_true, if_false, Option.isNone_none, Option.isNone_some, Bool.false_eq_true, reduceCtorEq, ↓reduceIte]; rfl)
       case hn => decide
       case h => (first | exact n5 .. | exact nq .. | exact n7 .. | exact hs ..)
       case hf => (simp only [List.forall_mem_cons, List.not_mem_nil, false_implies, implies_true, and_true, true_and, flat_cons, flat_nil, flat_ints, flat_bools, flat_app, Pgs_flat, Cell.refs, and_self, eq_self_iff_true, List.append_nil])
       case hg => ((simp [hpL', lookR, Cell.isG]) <;> (repeat' apply And.intro) <;> (first | exact Ints_isG _ | exact Pgs_isG _))
       case hl => (simp only [List.length_cons, List.length_nil]; decide))
    | ((first | refine s1_id ?_ | refine swp_id ?_ | refine sops_id ?_ | refine s2_id ?_); simp only [lends, Pgs_ren, go_sem, Nat.reduceEqDiff, Nat.reduceAdd, Nat.reduceSub, Nat.reduceMul, Nat.reduceLT, Nat.reduceLeDiff, ↓reduceIte, reduceCtorEq, List.reduceReplicate, Int.cast_ofNat_Int, Int.reduceEq, Int.reduceLT, Int.reduceLE, SV.ren, SV.renL, Cell.ren, Row.ren, renO, bk, back, outUpsFrom, Ints_ren]))
  clear n5 nq n7 hs ht hq e1
  refine w_loop (ι := Nat × Rr × Nat) (fun s => ⟨[(0, dp), (1, .one (.osl 1 0 p.length none)), (4, .one (.optr 2 0)), (5, .one (.optr 3 0)), (7, i1 s.1)], [(0, some (dice l s.2.2)), (1, some ⟨Pgs p, 1⟩), (2, some ⟨[int 0, int 0, int 0, int 0, int 0, int 0], 6⟩), (3, some ⟨[int s.2.1.t, int s.2.1.p, int s.2.1.a, int s.2.1.l, int s.2.1.s, int s.2.1.u], 6⟩)], 4⟩) (fun s => s.1 ≤ 6 ∧ snd p s.2.1 = true ∧ rnL p l s.1 s.2 = T) (fun s => s.1) (K, r0, j3) ?_ ⟨by show K ≤ 6; omega, hg, hT.symm⟩ ?_
  · (refine imp_ren _ _ _ [(0, 0, dice l j3), (1, 1, ⟨Pgs p, 1⟩), (2, 2, ⟨[int 0, int 0, int 0, int 0, int 0, int 0], 6⟩), (3, 15, ⟨[int r0.t, int r0.p, int r0.a, int r0.l, int r0.s, int r0.u], 6⟩)] (by simp) (by simp) (by simp) (Nat.le_of_ble_eq_true rfl) ?_ rfl (by simp only [List.forall_mem_cons, List.not_mem_nil, false_implies, implies_true, and_true, St.hpF, lookR, Nat.reduceEqDiff, if_true, if_false, ↓reduceIte, dice, Pgs_flat] <;> (repeat' apply And.intro) <;> (first | rfl | trivial)) (by simp only [List.forall_mem_cons, List.not_mem_nil, false_implies, implies_true, and_true, true_and, flat_cons, flat_nil, flat_ints, flat_bools, flat_app, Cell.refs, and_self, eq_self_iff_true, List.append_nil, dice, Pgs_flat]); simp only [List.map_cons, List.map_nil, List.forall_mem_cons, List.not_mem_nil, false_implies, implies_true, and_true, lk, slot, SV.ren, Cell.ren, toN, Nat.reduceEqDiff, if_true, if_false, ↓reduceIte, reduceCtorEq])
    all_goals ((repeat' apply And.intro) <;> (first | rfl | trivial))
  clear hg hT h7
  rintro ⟨m, r, j⟩ ⟨hm, hs, hL⟩
  simp only at hm hs hL ⊢
  rcases Nat.eq_zero_or_pos m with h0 | h0
  · subst h0
    have hlt : ¬ (0 : Int) < ((0 : Nat) : Int) := by omega
    have hT : T = (r, j) := hL.symm
    subst hT
    have b4 := bool_spec l j 4 hl6 hl (by omega)
    by_cases hb : nxV l j 4 = 4 - 1
    · have hB : rnB l (r, j) = (⟨r.t, r.p, pkV l (nxA l j 4) [r.a, 0, 9, -1], pkV l (nxA l (nxA l j 4) 4) [r.l, 0, 1, 6], nxV l (nxA l (nxA l (nxA l (nxA l j 4) 4) 4) 4) 6, pkV l (nxA l (nxA l (nxA l j 4) 4) 4) [r.u, 0, 3, -1]⟩, nxA l (nxA l (nxA l (nxA l (nxA l j 4) 4) 4) 4) 6) := by
        unfold rnB; rw [if_pos (by simpa using hb)]
      rw [hB]
      have p1 := pick_spec l (nxA l j 4) [r.a, 0, 9, -1] (some 4) (by simp) (by simp) hl6 hl
      have p2 := pick_spec l (nxA l (nxA l j 4) 4) [r.l, 0, 1, 6] (some 4) (by simp) (by simp) hl6 hl
      have p3 := pick_spec l (nxA l (nxA l (nxA l j 4) 4) 4) [r.u, 0, 3, -1] (some 4) (by simp) (by simp) hl6 hl
      have n6 := next_spec l (nxA l (nxA l (nxA l (nxA l j 4) 4) 4) 4) 6 hl6 hl (by omega)
      simp only [go_sem, Nat.reduceEqDiff, Nat.reduceAdd, Nat.reduceSub, Nat.reduceMul, Nat.reduceLT, Nat.reduceLeDiff, ↓reduceIte, reduceCtorEq, List.reduceReplicate, Int.cast_ofNat_Int, Int.reduceEq, Int.reduceLT, Int.reduceLE, decide_eq_false hlt, lends]
      repeat' (first
    | with_reducible refine And.intro ?_ ?_
    | (unfold OKC; kernel_rfl)
    | (apply okc_up <;> (first | ((repeat (first | exact Sub.nil | apply Sub.gfp | apply Sub.same)); done) | kernel_rfl))
    | (unfold EDG; kernel_rfl)
    | (intros; (try simp only [Bool.and_eq_true, Bool.or_eq_true, Bool.not_eq_true', Bool.not_eq_false', Bool.and_eq_false_iff, Bool.or_eq_false_iff, decide_eq_true_eq, decide_eq_false_iff_not] at *); omega)
    | (refine gt_if (fun h => ?_) (fun h => ?_) <;> (try simp only [h]))
    | (refine pt_if (fun h => ?_) (fun h => ?_) <;> (try simp only [h]))
    | (refine cd_if (fun h => ?_) (fun h => ?_) <;> (try simp only [h]))
    | (apply cl_lend
       case hr => (simp only [List.map_cons, List.map_nil, hpL', lookR, Nat.reduceEqDiff, if_true, if_false]; first | exact map1 _ | exact map2 _ _ | exact map3 _ _ _)
       case ha => (simp only [List.map_cons, List.map_nil, prepV, prepC, idx, hpL', lookR, Nat.reduceEqDiff, if_true, if_false]; rfl)
       case hs => rfl
       case hn => decide
       case h => (first | exact b4 .. | exact p1 .. | exact p2 .. | exact p3 .. | exact n6 ..)
       case hf => (simp only [List.forall_mem_cons, List.not_mem_nil, false_implies, implies_true, and_true, true_and, flat_cons, flat_nil, flat_ints, flat_bools, flat_app, Pgs_flat, Cell.refs, and_self, eq_self_iff_true, List.append_nil])
       case hl => (simp only [List.length_cons, List.length_nil]; decide))
    | (apply cl_show
       case ha => (simp only [List.map_cons, List.map_nil, prepV, prepC, idx, hpL', lookR, Nat.reduceEqDiff, if_true, if_false]; rfl)
       case hs => ((simp [snaps, SV.refs, Cell.refs, idx, hpL', lookR]) <;> (repeat' apply And.intro) <;> (first | exact Ints_isG _ | exact Pgs_isG _))
       case h => (first | exact b4 .. | exact p1 .. | exact p2 .. | exact p3 .. | exact n6 ..)
       case hg => ((simp [SV.noG, SV.noGL, Cell.noG]) <;> (repeat' apply And.intro) <;> exact Ints_noG _))
    | (apply cl_use
       case hr => (simp only [List.map_cons, List.map_nil, hpL', lookR, Nat.reduceEqDiff, if_true, if_false]; first | exact map0 | exact map1 _ | exact map2 _ _ | exact map3 _ _ _)
       case ha => (simp only [List.map_cons, List.map_nil, prepV, prepC, idx, hpL', lookR, Nat.reduceEqDiff, if_true, if_false]; rfl)
       case hs => (simp only [snaps, SV.refs, Cell.refs, idx, List.flatMap_cons, List.flatMap_nil, List.nil_append, List.cons_append, List.append_nil, List.filter_cons, List.filter_nil, Nat.reduceEqDiff, if_true, if_false, Option.isNone_none, Option.isNone_some, Bool.false_eq_true, reduceCtorEq, ↓reduceIte]; rfl)
       case hn => decide
       case h => (first | exact b4 .. | exact p1 .. | exact p2 .. | exact p3 .. | exact n6 ..)
       case hf => (simp only [List.forall_mem_cons, List.not_mem_nil, false_implies, implies_true, and_true, true_and, flat_cons, flat_nil, flat_ints, flat_bools, flat_app, Pgs_flat, Cell.refs, and_self, eq_self_iff_true, List.append_nil])
       case hg => ((simp [hpL', lookR, Cell.isG]) <;> (repeat' apply And.intro) <;> (first | exact Ints_isG _ | exact Pgs_isG _))
       case hl => (simp only [List.length_cons, List.length_nil]; decide))
    | ((first | refine s1_id ?_ | refine swp_id ?_ | refine sops_id ?_ | refine s2_id ?_); simp only [Pgs_ren, decide_eq_false hlt, lends, decide_eq_true hb, go_sem, Nat.reduceEqDiff, Nat.reduceAdd, Nat.reduceSub, Nat.reduceMul, Nat.reduceLT, Nat.reduceLeDiff, ↓reduceIte, reduceCtorEq, List.reduceReplicate, Int.cast_ofNat_Int, Int.reduceEq, Int.reduceLT, Int.reduceLE, SV.ren, SV.renL, Cell.ren, Row.ren, renO, bk, back, outUpsFrom, Ints_ren]))
      (refine fs_flat [(0, dice l (nxA l (nxA l (nxA l (nxA l (nxA l j 4) 4) 4) 4) 6)), (1, ⟨Pgs p, 1⟩)] (by simp) (by simp only [List.map_cons, List.map_nil]; decide) (by simp only [go_sem, resV, resS, SV.ren, SV.renL, Cell.ren, St.tmF, St.hpF, idx, renO, Row.ren, evS, slot, lookR, Nat.reduceEqDiff, ↓reduceIte, reduceCtorEq, if_true, if_false, Option.getD_some, Option.getD_none, List.map_cons, List.map_nil, sLoad, readAt, readNeed, Ints_ren, Ints_length, Ints_getD, and_true, true_and, List.getD_cons_zero, List.getD_cons_succ]; try decide) ?_ (by simp only [List.forall_mem_cons, List.not_mem_nil, false_implies, implies_true, and_true, St.hpF, lookR, Nat.reduceEqDiff, if_true, if_false, ↓reduceIte, dice, Pgs_flat] <;> (repeat' apply And.intro) <;> (first | rfl | trivial)) (by simp only [List.forall_mem_cons, List.not_mem_nil, false_implies, implies_true, and_true, true_and, flat_cons, flat_nil, flat_ints, flat_bools, flat_app, Cell.refs, and_self, eq_self_iff_true, List.append_nil, dice, Pgs_flat]) ?_ <;> (try simp only [go_sem, resV, resS, SV.ren, SV.renL, Cell.ren, St.tmF, St.hpF, idx, renO, Row.ren, evS, slot, lookR, Nat.reduceEqDiff, ↓reduceIte, reduceCtorEq, if_true, if_false, Option.getD_some, Option.getD_none, List.map_cons, List.map_nil, sLoad, readAt, readNeed, Ints_ren, Ints_length, Ints_getD, and_true, true_and, List.getD_cons_zero, List.getD_cons_succ]) <;> (try rfl))
    · have hB : rnB l (r, j) = (r, nxA l j 4) := by unfold rnB; rw [if_neg (fun h' => hb (by simpa using h'))]
      rw [hB]
      simp only [go_sem, Nat.reduceEqDiff, Nat.reduceAdd, Nat.reduceSub, Nat.reduceMul, Nat.reduceLT, Nat.reduceLeDiff, ↓reduceIte, reduceCtorEq, List.reduceReplicate, Int.cast_ofNat_Int, Int.reduceEq, Int.reduceLT, Int.reduceLE, decide_eq_false hlt, lends]
      repeat' (first
    | with_reducible refine And.intro ?_ ?_
    | (unfold OKC; kernel_rfl)
    | (apply okc_up <;> (first | ((repeat (first | exact Sub.nil | apply Sub.gfp | apply Sub.same)); done) | kernel_rfl))
    | (unfold EDG; kernel_rfl)
    | (intros; (try simp only [Bool.and_eq_true, Bool.or_eq_true, Bool.not_eq_true', Bool.not_eq_false', Bool.and_eq_false_iff, Bool.or_eq_false_iff, decide_eq_true_eq, decide_eq_false_iff_not] at *); omega)
    | (refine gt_if (fun h => ?_) (fun h => ?_) <;> (try simp only [h]))
    | (refine pt_if (fun h => ?_) (fun h => ?_) <;> (try simp only [h]))
    | (refine cd_if (fun h => ?_) (fun h => ?_) <;> (try simp only [h]))
    | (apply cl_lend
       case hr => (simp only [List.map_cons, List.map_nil, hpL', lookR, Nat.reduceEqDiff, if_true, if_false]; first | exact map1 _ | exact map2 _ _ | exact map3 _ _ _)
       case ha => (simp only [List.map_cons, List.map_nil, prepV, prepC, idx, hpL', lookR, Nat.reduceEqDiff, if_true, if_false]; rfl)
       case hs => rfl
       case hn => decide
       case h => (first | exact b4 ..)
       case hf => (simp only [List.forall_mem_cons, List.not_mem_nil, false_implies, implies_true, and_true, true_and, flat_cons, flat_nil, flat_ints, flat_bools, flat_app, Pgs_flat, Cell.refs, and_self, eq_self_iff_true, List.append_nil])
       case hl => (simp only [List.length_cons, List.length_nil]; decide))
    | (apply cl_show
       case ha => (simp only [List.map_cons, List.map_nil, prepV, prepC, idx, hpL', lookR, Nat.reduceEqDiff, if_true, if_false]; rfl)
       case hs => ((simp [snaps, SV.refs, Cell.refs, idx, hpL', lookR]) <;> (repeat' apply And.intro) <;> (first | exact Ints_isG _ | exact Pgs_isG _))
       case h => (first | exact b4 ..)
       case hg => ((simp [SV.noG, SV.noGL, Cell.noG]) <;> (repeat' apply And.intro) <;> exact Ints_noG _))
    | (apply cl_use
       case hr => (simp only [List.map_cons, List.map_nil, hpL', lookR, Nat.reduceEqDiff, if_true, if_false]; first | exact map0 | exact map1 _ | exact map2 _ _ | exact map3 _ _ _)
       case ha => (simp only [List.map_cons, List.map_nil, prepV, prepC, idx, hpL', lookR, Nat.reduceEqDiff, if_true, if_false]; rfl)
       case hs => (simp only [snaps, SV.refs, Cell.refs, idx, List.flatMap_cons, List.flatMap_nil, List.nil_append, List.cons_append, List.append_nil, List.filter_cons, List.filter_nil, Nat.reduceEqDiff, if_true, if_false, Option.isNone_none, Option.isNone_some, Bool.false_eq_true, reduceCtorEq, ↓reduceIte]; rfl)
       case hn => decide
       case h => (first | exact b4 ..)
       case hf => (simp only [List.forall_mem_cons, List.not_mem_nil, false_implies, implies_true, and_true, true_and, flat_cons, flat_nil, flat_ints, flat_bools, flat_app, Pgs_flat, Cell.refs, and_self, eq_self_iff_true, List.append_nil])
       case hg => ((simp [hpL', lookR, Cell.isG]) <;> (repeat' apply And.intro) <;> (first | exact Ints_isG _ | exact Pgs_isG _))
       case hl => (simp only [List.length_cons, List.length_nil]; decide))
    | ((first | refine s1_id ?_ | refine swp_id ?_ | refine sops_id ?_ | refine s2_id ?_); simp only [Pgs_ren, decide_eq_false hlt, lends, decide_eq_false hb, go_sem, Nat.reduceEqDiff, Nat.reduceAdd, Nat.reduceSub, Nat.reduceMul, Nat.reduceLT, Nat.reduceLeDiff, ↓reduceIte, reduceCtorEq, List.reduceReplicate, Int.cast_ofNat_Int, Int.reduceEq, Int.reduceLT, Int.reduceLE, SV.ren, SV.renL, Cell.ren, Row.ren, renO, bk, back, outUpsFrom, Ints_ren]))
      (refine fs_flat [(0, dice l (nxA l j 4)), (1, ⟨Pgs p, 1⟩)] (by simp) (by simp only [List.map_cons, List.map_nil]; decide) (by simp only [go_sem, resV, resS, SV.ren, SV.renL, Cell.ren, St.tmF, St.hpF, idx, renO, Row.ren, evS, slot, lookR, Nat.reduceEqDiff, ↓reduceIte, reduceCtorEq, if_true, if_false, Option.getD_some, Option.getD_none, List.map_cons, List.map_nil, sLoad, readAt, readNeed, Ints_ren, Ints_length, Ints_getD, and_true, true_and, List.getD_cons_zero, List.getD_cons_succ]; try decide) ?_ (by simp only [List.forall_mem_cons, List.not_mem_nil, false_implies, implies_true, and_true, St.hpF, lookR, Nat.reduceEqDiff, if_true, if_false, ↓reduceIte, dice, Pgs_flat] <;> (repeat' apply And.intro) <;> (first | rfl | trivial)) (by simp only [List.forall_mem_cons, List.not_mem_nil, false_implies, implies_true, and_true, true_and, flat_cons, flat_nil, flat_ints, flat_bools, flat_app, Cell.refs, and_self, eq_self_iff_true, List.append_nil, dice, Pgs_flat]) ?_ <;> (try simp only [go_sem, resV, resS, SV.ren, SV.renL, Cell.ren, St.tmF, St.hpF, idx, renO, Row.ren, evS, slot, lookR, Nat.reduceEqDiff, ↓reduceIte, reduceCtorEq, if_true, if_false, Option.getD_some, Option.getD_none, List.map_cons, List.map_nil, sLoad, readAt, readNeed, Ints_ren, Ints_length, Ints_getD, and_true, true_and, List.getD_cons_zero, List.getD_cons_succ]) <;> (try rfl))
  obtain ⟨m, rfl⟩ : ∃ m', m = m' + 1 := ⟨m - 1, by omega⟩
  have hlt : (0 : Int) < ((m + 1 : Nat) : Int) := by omega
  have hmm : ((m + 1 : Nat) : Int) - 1 = (m : Int) := by omega
  have h3 := nxV_rng l j 3 (by omega)
  have n3 := next_spec l j 3 hl6 hl (by omega)
  have c0 := rnext_spec p none r hp
  have c1 := runit_spec p none r hp
  have c2 := fun a b => rwait_spec p none r a b hp
  simp only [rre, wr0] at c0 c1 c2
  have hok := rnS_ok (p := p) (l := l) (s := (r, j)) hs
  replace hL : rnL p l m (rnS p l (r, j)) = T := hL
  have hXX : rnX p l r j = if nxV l j 3 = 0 then (punit p r, nxA l j 3) else if nxV l j 3 = 1 then (pwait p r (1 + nxV l (nxA l j 3) 3) 0, nxA l (nxA l j 3) 3) else (pnext p r, nxA l j 3) := rfl
  have hv3 : nxV l j 3 = 0 ∨ nxV l j 3 = 1 ∨ nxV l j 3 = 2 := by omega
  rcases hv3 with hv | hv | hv
  · have hX : rnX p l r j = (punit p r, nxA l j 3) := by rw [hXX, if_pos hv]
    clear hXX c2
    generalize pnext p r = y0 at *
    obtain ⟨y0, e0⟩ := y0
    generalize punit p r = y at *
    obtain ⟨y, e⟩ := y
    by_cases he : e = 0
    · have hS : rnS p l (r, j) = (y, nxA l j 3) := by unfold rnS; simp only [hX, he, if_true]
      rw [hS] at hL hok
      simp only [go_sem, Nat.reduceEqDiff, Nat.reduceAdd, Nat.reduceSub, Nat.reduceMul, Nat.reduceLT, Nat.reduceLeDiff, ↓reduceIte, reduceCtorEq, List.reduceReplicate, Int.cast_ofNat_Int, Int.reduceEq, Int.reduceLT, Int.reduceLE, decide_eq_true hlt, lends]
      repeat' (first
    | with_reducible refine And.intro ?_ ?_
    | (unfold OKC; kernel_rfl)
    | (apply okc_up <;> (first | ((repeat (first | exact Sub.nil | apply Sub.gfp | apply Sub.same)); done) | kernel_rfl))
    | (unfold EDG; kernel_rfl)
    | (intros; (try simp only [Bool.and_eq_true, Bool.or_eq_true, Bool.not_eq_true', Bool.not_eq_false', Bool.and_eq_false_iff, Bool.or_eq_false_iff, decide_eq_true_eq, decide_eq_false_iff_not] at *); omega)
    | (refine gt_if (fun h => ?_) (fun h => ?_) <;> (try simp only [h]))
    | (refine pt_if (fun h => ?_) (fun h => ?_) <;> (try simp only [h]))
    | (refine cd_if (fun h => ?_) (fun h => ?_) <;> (try simp only [h]))
    | (apply cl_lend
       case hr => (simp only [List.map_cons, List.map_nil, hpL', lookR, Nat.reduceEqDiff, if_true, if_false]; first | exact map1 _ | exact map2 _ _ | exact map3 _ _ _)
       case ha => (simp only [List.map_cons, List.map_nil, prepV, prepC, idx, hpL', lookR, Nat.reduceEqDiff, if_true, if_false]; rfl)
       case hs => rfl
       case hn => decide
       case h => (first | exact n3 .. | exact c0 .. | exact c1 ..)
       case hf => (simp only [List.forall_mem_cons, List.not_mem_nil, false_implies, implies_true, and_true, true_and, flat_cons, flat_nil, flat_ints, flat_bools, flat_app, Pgs_flat, Cell.refs, and_self, eq_self_iff_true, List.append_nil])
       case hl => (simp only [List.length_cons, List.length_nil]; decide))
    | (apply cl_show
       case ha => (simp only [List.map_cons, List.map_nil, prepV, prepC, idx, hpL', lookR, Nat.reduceEqDiff, if_true, if_false]; rfl)
       case hs => ((simp [snaps, SV.refs, Cell.refs, idx, hpL', lookR]) <;> (repeat' apply And.intro) <;> (first | exact Ints_isG _ | exact Pgs_isG _))
       case h => (first | exact n3 .. | exact c0 .. | exact c1 ..)
       case hg => ((simp [SV.noG, SV.noGL, Cell.noG]) <;> (repeat' apply And.intro) <;> exact Ints_noG _))
    | (apply cl_use
       case hr => (simp only [List.map_cons, List.map_nil, hpL', lookR, Nat.reduceEqDiff, if_true, if_false]; first | exact map0 | exact map1 _ | exact map2 _ _ | exact map3 _ _ _)
       case ha => (simp only [List.map_cons, List.map_nil, prepV, prepC, idx, hpL', lookR, Nat.reduceEqDiff, if_true, if_false]; rfl)
       case hs => (simp only [snaps, SV.refs, Cell.refs, idx, List.flatMap_cons, List.flatMap_nil, List.nil_append, List.cons_append, List.append_nil, List.filter_cons, List.filter_nil, Nat.reduceEqDiff, if_true, if_false, Option.isNone_none, Option.isNone_some, Bool.false_eq_true, reduceCtorEq, ↓reduceIte]; rfl)
       case hn => decide
       case h => (first | exact n3 .. | exact c0 .. | exact c1 ..)
       case hf => (simp only [List.forall_mem_cons, List.not_mem_nil, false_implies, implies_true, and_true, true_and, flat_cons, flat_nil, flat_ints, flat_bools, flat_app, Pgs_flat, Cell.refs, and_self, eq_self_iff_true, List.append_nil])
       case hg => ((simp [hpL', lookR, Cell.isG]) <;> (repeat' apply And.intro) <;> (first | exact Ints_isG _ | exact Pgs_isG _))
       case hl => (simp only [List.length_cons, List.length_nil]; decide))
    | ((first | refine s1_id ?_ | refine swp_id ?_ | refine sops_id ?_ | refine s2_id ?_); simp only [Pgs_ren, decide_eq_true hlt, lends, decide_eq_true hv, decide_eq_true he, decide_true, go_sem, Nat.reduceEqDiff, Nat.reduceAdd, Nat.reduceSub, Nat.reduceMul, Nat.reduceLT, Nat.reduceLeDiff, ↓reduceIte, reduceCtorEq, List.reduceReplicate, Int.cast_ofNat_Int, Int.reduceEq, Int.reduceLT, Int.reduceLE, SV.ren, SV.renL, Cell.ren, Row.ren, renO, bk, back, outUpsFrom, Ints_ren]))
      refine le_mk (m, y, nxA l j 3) ?_ ⟨by show m ≤ 6; omega, hok, hL⟩ (by show m < m + 1; omega)
      (refine imp_ren _ _ _ [(0, 0, dice l (nxA l j 3)), (1, 1, ⟨Pgs p, 1⟩), (2, 2, ⟨[int 0, int 0, int 0, int 0, int 0, int 0], 6⟩), (3, 3, ⟨[int y.t, int y.p, int y.a, int y.l, int y.s, int y.u], 6⟩)] (by simp) (by simp) (by simp) (Nat.le_of_ble_eq_true rfl) ?_ rfl (by simp only [List.forall_mem_cons, List.not_mem_nil, false_implies, implies_true, and_true, St.hpF, lookR, Nat.reduceEqDiff, if_true, if_false, ↓reduceIte, dice, Pgs_flat] <;> (repeat' apply And.intro) <;> (first | rfl | trivial)) (by simp only [List.forall_mem_cons, List.not_mem_nil, false_implies, implies_true, and_true, true_and, flat_cons, flat_nil, flat_ints, flat_bools, flat_app, Cell.refs, and_self, eq_self_iff_true, List.append_nil, dice, Pgs_flat]); simp only [List.map_cons, List.map_nil, List.forall_mem_cons, List.not_mem_nil, false_implies, implies_true, and_true, lk, slot, SV.ren, Cell.ren, toN, Nat.reduceEqDiff, if_true, if_false, ↓reduceIte, reduceCtorEq])
      all_goals ((repeat' apply And.intro) <;> (first | rfl | trivial | (simp only [hmm]; done) | (simp only [hmm]; rfl) | (simp only [hmm]; trivial)))
    · have hS : rnS p l (r, j) = (r, nxA l j 3) := by unfold rnS; simp only [hX, he, if_false]
      rw [hS] at hL hok
      simp only [go_sem, Nat.reduceEqDiff, Nat.reduceAdd, Nat.reduceSub, Nat.reduceMul, Nat.reduceLT, Nat.reduceLeDiff, ↓reduceIte, reduceCtorEq, List.reduceReplicate, Int.cast_ofNat_Int, Int.reduceEq, Int.reduceLT, Int.reduceLE, decide_eq_true hlt, lends]
      repeat' (first
    | with_reducible refine And.intro ?_ ?_
    | (unfold OKC; kernel_rfl)
    | (apply okc_up <;> (first | ((repeat (first | exact Sub.nil | apply Sub.gfp | apply Sub.same)); done) | kernel_rfl))
    | (unfold EDG; kernel_rfl)
    | (intros; (try simp only [Bool.and_eq_true, Bool.or_eq_true, Bool.not_eq_true', Bool.not_eq_false', Bool.and_eq_false_iff, Bool.or_eq_false_iff, decide_eq_true_eq, decide_eq_false_iff_not] at *); omega)
    | (refine gt_if (fun h => ?_) (fun h => ?_) <;> (try simp only [h]))
    | (refine pt_if (fun h => ?_) (fun h => ?_) <;> (try simp only [h]))
    | (refine cd_if (fun h => ?_) (fun h => ?_) <;> (try simp only [h]))
    | (apply cl_lend
       case hr => (simp only [List.map_cons, List.map_nil, hpL', lookR, Nat.reduceEqDiff, if_true, if_false]; first | exact map1 _ | exact map2 _ _ | exact map3 _ _ _)
       case ha => (simp only [List.map_cons, List.map_nil, prepV, prepC, idx, hpL', lookR, Nat.reduceEqDiff, if_true, if_false]; rfl)
       case hs => rfl
       case hn => decide
       case h => (first | exact n3 .. | exact c0 .. | exact c1 ..)
       case hf => (simp only [List.forall_mem_cons, List.not_mem_nil, false_implies, implies_true, and_true, true_and, flat_cons, flat_nil, flat_ints, flat_bools, flat_app, Pgs_flat, Cell.refs, and_self, eq_self_iff_true, List.append_nil])
       case hl => (simp only [List.length_cons, List.length_nil]; decide))
    | (apply cl_show
       case ha => (simp only [List.map_cons, List.map_nil, prepV, prepC, idx, hpL', lookR, Nat.reduceEqDiff, if_true, if_false]; rfl)
       case hs => ((simp [snaps, SV.refs, Cell.refs, idx, hpL', lookR]) <;> (repeat' apply And.intro) <;> (first | exact Ints_isG _ | exact Pgs_isG _))
       case h => (first | exact n3 .. | exact c0 .. | exact c1 ..)
       case hg => ((simp [SV.noG, SV.noGL, Cell.noG]) <;> (repeat' apply And.intro) <;> exact Ints_noG _))
    | (apply cl_use
       case hr => (simp only [List.map_cons, List.map_nil, hpL', lookR, Nat.reduceEqDiff, if_true, if_false]; first | exact map0 | exact map1 _ | exact map2 _ _ | exact map3 _ _ _)
       case ha => (simp only [List.map_cons, List.map_nil, prepV, prepC, idx, hpL', lookR, Nat.reduceEqDiff, if_true, if_false]; rfl)
       case hs => (simp only [snaps, SV.refs, Cell.refs, idx, List.flatMap_cons, List.flatMap_nil, List.nil_append, List.cons_append, List.append_nil, List.filter_cons, List.filter_nil, Nat.reduceEqDiff, if_true, if_false, Option.isNone_none, Option.isNone_some, Bool.false_eq_true, reduceCtorEq, ↓reduceIte]; rfl)
       case hn => decide
       case h => (first | exact n3 .. | exact c0 .. | exact c1 ..)
       case hf => (simp only [List.forall_mem_cons, List.not_mem_nil, false_implies, implies_true, and_true, true_and, flat_cons, flat_nil, flat_ints, flat_bools, flat_app, Pgs_flat, Cell.refs, and_self, eq_self_iff_true, List.append_nil])
       case hg => ((simp [hpL', lookR, Cell.isG]) <;> (repeat' apply And.intro) <;> (first | exact Ints_isG _ | exact Pgs_isG _))
       case hl => (simp only [List.length_cons, List.length_nil]; decide))
    | ((first | refine s1_id ?_ | refine swp_id ?_ | refine sops_id ?_ | refine s2_id ?_); simp only [Pgs_ren, decide_eq_true hlt, lends, decide_eq_true hv, decide_eq_false he, decide_true, go_sem, Nat.reduceEqDiff, Nat.reduceAdd, Nat.reduceSub, Nat.reduceMul, Nat.reduceLT, Nat.reduceLeDiff, ↓reduceIte, reduceCtorEq, List.reduceReplicate, Int.cast_ofNat_Int, Int.reduceEq, Int.reduceLT, Int.reduceLE, SV.ren, SV.renL, Cell.ren, Row.ren, renO, bk, back, outUpsFrom, Ints_ren]))
      refine le_mk (m, r, nxA l j 3) ?_ ⟨by show m ≤ 6; omega, hok, hL⟩ (by show m < m + 1; omega)
      (refine imp_ren _ _ _ [(0, 0, dice l (nxA l j 3)), (1, 1, ⟨Pgs p, 1⟩), (2, 2, ⟨[int 0, int 0, int 0, int 0, int 0, int 0], 6⟩), (3, 3, ⟨[int r.t, int r.p, int r.a, int r.l, int r.s, int r.u], 6⟩)] (by simp) (by simp) (by simp) (Nat.le_of_ble_eq_true rfl) ?_ rfl (by simp only [List.forall_mem_cons, List.not_mem_nil, false_implies, implies_true, and_true, St.hpF, lookR, Nat.reduceEqDiff, if_true, if_false, ↓reduceIte, dice, Pgs_flat] <;> (repeat' apply And.intro) <;> (first | rfl | trivial)) (by simp only [List.forall_mem_cons, List.not_mem_nil, false_implies, implies_true, and_true, true_and, flat_cons, flat_nil, flat_ints, flat_bools, flat_app, Cell.refs, and_self, eq_self_iff_true, List.append_nil, dice, Pgs_flat]); simp only [List.map_cons, List.map_nil, List.forall_mem_cons, List.not_mem_nil, false_implies, implies_true, and_true, lk, slot, SV.ren, Cell.ren, toN, Nat.reduceEqDiff, if_true, if_false, ↓reduceIte, reduceCtorEq])
      all_goals ((repeat' apply And.intro) <;> (first | rfl | trivial | (simp only [hmm]; done) | (simp only [hmm]; rfl) | (simp only [hmm]; trivial)))
  · have d0 : ¬ nxV l j 3 = 0 := by omega
    have hX : rnX p l r j = (pwait p r (1 + nxV l (nxA l j 3) 3) 0, nxA l (nxA l j 3) 3) := by rw [hXX, if_neg d0, if_pos hv]
    clear hXX c1
    have h33 := nxV_rng l (nxA l j 3) 3 (by omega)
    have n33 := next_spec l (nxA l j 3) 3 hl6 hl (by omega)
    have cx := c2 (1 + nxV l (nxA l j 3) 3) 0
    clear c2
    generalize pnext p r = y0 at *
    obtain ⟨y0, e0⟩ := y0
    generalize pwait p r (1 + nxV l (nxA l j 3) 3) 0 = y at *
    obtain ⟨y, e⟩ := y
    by_cases he : e = 0
    · have hS : rnS p l (r, j) = (y, nxA l (nxA l j 3) 3) := by unfold rnS; simp only [hX, he, if_true]
      rw [hS] at hL hok
      simp only [go_sem, Nat.reduceEqDiff, Nat.reduceAdd, Nat.reduceSub, Nat.reduceMul, Nat.reduceLT, Nat.reduceLeDiff, ↓reduceIte, reduceCtorEq, List.reduceReplicate, Int.cast_ofNat_Int, Int.reduceEq, Int.reduceLT, Int.reduceLE, decide_eq_true hlt, lends]
      repeat' (first
    | with_reducible refine And.intro ?_ ?_
    | (unfold OKC; kernel_rfl)
    | (apply okc_up <;> (first | ((repeat (first | exact Sub.nil | apply Sub.gfp | apply Sub.same)); done) | kernel_rfl))
    | (unfold EDG; kernel_rfl)
    | (intros; (try simp only [Bool.and_eq_true, Bool.or_eq_true, Bool.not_eq_true', Bool.not_eq_false', Bool.and_eq_false_iff, Bool.or_eq_false_iff, decide_eq_true_eq, decide_eq_false_iff_not] at *); omega)
    | (refine gt_if (fun h => ?_) (fun h => ?_) <;> (try simp only [h]))
    | (refine pt_if (fun h => ?_) (fun h => ?_) <;> (try simp only [h]))
    | (refine cd_if (fun h => ?_) (fun h => ?_) <;> (try simp only [h]))
    | (apply cl_lend
       case hr => (simp only [List.map_cons, List.map_nil, hpL', lookR, Nat.reduceEqDiff, if_true, if_false]; first | exact map1 _ | exact map2 _ _ | exact map3 _ _ _)
       case ha => (simp only [List.map_cons, List.map_nil, prepV, prepC, idx, hpL', lookR, Nat.reduceEqDiff, if_true, if_false]; rfl)
       case hs => rfl
       case hn => decide
       case h => (first | exact n3 .. | exact c0 .. | exact n33 .. | exact cx ..)
       case hf => (simp only [List.forall_mem_cons, List.not_mem_nil, false_implies, implies_true, and_true, true_and, flat_cons, flat_nil, flat_ints, flat_bools, flat_app, Pgs_flat, Cell.refs, and_self, eq_self_iff_true, List.append_nil])
       case hl => (simp only [List.length_cons, List.length_nil]; decide))
    | (apply cl_show
       case ha => (simp only [List.map_cons, List.map_nil, prepV, prepC, idx, hpL', lookR, Nat.reduceEqDiff, if_true, if_false]; rfl)
       case hs => ((simp [snaps, SV.refs, Cell.refs, idx, hpL', lookR]) <;> (repeat' apply And.intro) <;> (first | exact Ints_isG _ | exact Pgs_isG _))
       case h => (first | exact n3 .. | exact c0 .. | exact n33 .. | exact cx ..)
       case hg => ((simp [SV.noG, SV.noGL, Cell.noG]) <;> (repeat' apply And.intro) <;> exact Ints_noG _))
    | (apply cl_use
       case hr => (simp only [List.map_cons, List.map_nil, hpL', lookR, Nat.reduceEqDiff, if_true, if_false]; first | exact map0 | exact map1 _ | exact map2 _ _ | exact map3 _ _ _)
       case ha => (simp only [List.map_cons, List.map_nil, prepV, prepC, idx, hpL', lookR, Nat.reduceEqDiff, if_true, if_false]; rfl)
       case hs => (simp only [snaps, SV.refs, Cell.refs, idx, List.flatMap_cons, List.flatMap_nil, List.nil_append, List.cons_append, List.append_nil, List.filter_cons, List.filter_nil, Nat.reduceEqDiff, if_true, if_false, Option.isNone_none, Option.isNone_some, Bool.false_eq_true, reduceCtorEq, ↓reduceIte]; rfl)
       case hn => decide
       case h => (first | exact n3 .. | exact c0 .. | exact n33 .. | exact cx ..)
       case hf => (simp only [List.forall_mem_cons, List.not_mem_nil, false_implies, implies_true, and_true, true_and, flat_cons, flat_nil, flat_ints, flat_bools, flat_app, Pgs_flat, Cell.refs, and_self, eq_self_iff_true, List.append_nil])
       case hg => ((simp [hpL', lookR, Cell.isG]) <;> (repeat' apply And.intro) <;> (first | exact Ints_isG _ | exact Pgs_isG _))
       case hl => (simp only [List.length_cons, List.length_nil]; decide))
    | ((first | refine s1_id ?_ | refine swp_id ?_ | refine sops_id ?_ | refine s2_id ?_); simp only [Pgs_ren, decide_eq_true hlt, lends, decide_eq_false d0, decide_eq_true hv, decide_eq_true he, decide_true, go_sem, Nat.reduceEqDiff, Nat.reduceAdd, Nat.reduceSub, Nat.reduceMul, Nat.reduceLT, Nat.reduceLeDiff, ↓reduceIte, reduceCtorEq, List.reduceReplicate, Int.cast_ofNat_Int, Int.reduceEq, Int.reduceLT, Int.reduceLE, SV.ren, SV.renL, Cell.ren, Row.ren, renO, bk, back, outUpsFrom, Ints_ren]))
      refine le_mk (m, y, nxA l (nxA l j 3) 3) ?_ ⟨by show m ≤ 6; omega, hok, hL⟩ (by show m < m + 1; omega)
      (refine imp_ren _ _ _ [(0, 0, dice l (nxA l (nxA l j 3) 3)), (1, 1, ⟨Pgs p, 1⟩), (2, 2, ⟨[int 0, int 0, int 0, int 0, int 0, int 0], 6⟩), (3, 3, ⟨[int y.t, int y.p, int y.a, int y.l, int y.s, int y.u], 6⟩)] (by simp) (by simp) (by simp) (Nat.le_of_ble_eq_true rfl) ?_ rfl (by simp only [List.forall_mem_cons, List.not_mem_nil, false_implies, implies_true, and_true, St.hpF, lookR, Nat.reduceEqDiff, if_true, if_false, ↓reduceIte, dice, Pgs_flat] <;> (repeat' apply And.intro) <;> (first | rfl | trivial)) (by simp only [List.forall_mem_cons, List.not_mem_nil, false_implies, implies_true, and_true, true_and, flat_cons, flat_nil, flat_ints, flat_bools, flat_app, Cell.refs, and_self, eq_self_iff_true, List.append_nil, dice, Pgs_flat]); simp only [List.map_cons, List.map_nil, List.forall_mem_cons, List.not_mem_nil, false_implies, implies_true, and_true, lk, slot, SV.ren, Cell.ren, toN, Nat.reduceEqDiff, if_true, if_false, ↓reduceIte, reduceCtorEq])
      all_goals ((repeat' apply And.intro) <;> (first | rfl | trivial | (simp only [hmm]; done) | (simp only [hmm]; rfl) | (simp only [hmm]; trivial)))
    · have hS : rnS p l (r, j) = (r, nxA l (nxA l j 3) 3) := by unfold rnS; simp only [hX, he, if_false]
      rw [hS] at hL hok
      simp only [go_sem, Nat.reduceEqDiff, Nat.reduceAdd, Nat.reduceSub, Nat.reduceMul, Nat.reduceLT, Nat.reduceLeDiff, ↓reduceIte, reduceCtorEq, List.reduceReplicate, Int.cast_ofNat_Int, Int.reduceEq, Int.reduceLT, Int.reduceLE, decide_eq_true hlt, lends]
      repeat' (first
    | with_reducible refine And.intro ?_ ?_
    | (unfold OKC; kernel_rfl)
    | (apply okc_up <;> (first | ((repeat (first | exact Sub.nil | apply Sub.gfp | apply Sub.same)); done) | kernel_rfl))
    | (unfold EDG; kernel_rfl)
    | (intros; (try simp only [Bool.and_eq_true, Bool.or_eq_true, Bool.not_eq_true', Bool.not_eq_false', Bool.and_eq_false_iff, Bool.or_eq_false_iff, decide_eq_true_eq, decide_eq_false_iff_not] at *); omega)
    | (refine gt_if (fun h => ?_) (fun h => ?_) <;> (try simp only [h]))
    | (refine pt_if (fun h => ?_) (fun h => ?_) <;> (try simp only [h]))
    | (refine cd_if (fun h => ?_) (fun h => ?_) <;> (try simp only [h]))
    | (apply cl_lend
       case hr => (simp only [List.map_cons, List.map_nil, hpL', lookR, Nat.reduceEqDiff, if_true, if_false]; first | exact map1 _ | exact map2 _ _ | exact map3 _ _ _)
       case ha => (simp only [List.map_cons, List.map_nil, prepV, prepC, idx, hpL', lookR, Nat.reduceEqDiff, if_true, if_false]; rfl)
       case hs => rfl
       case hn => decide
       case h => (first | exact n3 .. | exact c0 .. | exact n33 .. | exact cx ..)
       case hf => (simp only [List.forall_mem_cons, List.not_mem_nil, false_implies, implies_true, and_true, true_and, flat_cons, flat_nil, flat_ints, flat_bools, flat_app, Pgs_flat, Cell.refs, and_self, eq_self_iff_true, List.append_nil])
       case hl => (simp only [List.length_cons, List.length_nil]; decide))
    | (apply cl_show
       case ha => (simp only [List.map_cons, List.map_nil, prepV, prepC, idx, hpL', lookR, Nat.reduceEqDiff, if_true, if_false]; rfl)
       case hs => ((simp [snaps, SV.refs, Cell.refs, idx, hpL', lookR]) <;> (repeat' apply And.intro) <;> (first | exact Ints_isG _ | exact Pgs_isG _))
       case h => (first | exact n3 .. | exact c0 .. | exact n33 .. | exact cx ..)
       case hg => ((simp [SV.noG, SV.noGL, Cell.noG]) <;> (repeat' apply And.intro) <;> exact Ints_noG _))
    | (apply cl_use
       case hr => (simp only [List.map_cons, List.map_nil, hpL', lookR, Nat.reduceEqDiff, if_true, if_false]; first | exact map0 | exact map1 _ | exact map2 _ _ | exact map3 _ _ _)
       case ha => (simp only [List.map_cons, List.map_nil, prepV, prepC, idx, hpL', lookR, Nat.reduceEqDiff, if_true, if_false]; rfl)
       case hs => (simp only [snaps, SV.refs, Cell.refs, idx, List.flatMap_cons, List.flatMap_nil, List.nil_append, List.cons_append, List.append_nil, List.filter_cons, List.filter_nil, Nat.reduceEqDiff, if_true, if_false, Option.isNone_none, Option.isNone_some, Bool.false_eq_true, reduceCtorEq, ↓reduceIte]; rfl)
       case hn => decide
       case h => (first | exact n3 .. | exact c0 .. | exact n33 .. | exact cx ..)
       case hf => (simp only [List.forall_mem_cons, List.not_mem_nil, false_implies, implies_true, and_true, true_and, flat_cons, flat_nil, flat_ints, flat_bools, flat_app, Pgs_flat, Cell.refs, and_self, eq_self_iff_true, List.append_nil])
       case hg => ((simp [hpL', lookR, Cell.isG]) <;> (repeat' apply And.intro) <;> (first | exact Ints_isG _ | exact Pgs_isG _))
       case hl => (simp only [List.length_cons, List.length_nil]; decide))
    | ((first | refine s1_id ?_ | refine swp_id ?_ | refine sops_id ?_ | refine s2_id ?_); simp only [Pgs_ren, decide_eq_true hlt, lends, decide_eq_false d0, decide_eq_true hv, decide_eq_false he, decide_true, go_sem, Nat.reduceEqDiff, Nat.reduceAdd, Nat.reduceSub, Nat.reduceMul, Nat.reduceLT, Nat.reduceLeDiff, ↓reduceIte, reduceCtorEq, List.reduceReplicate, Int.cast_ofNat_Int, Int.reduceEq, Int.reduceLT, Int.reduceLE, SV.ren, SV.renL, Cell.ren, Row.ren, renO, bk, back, outUpsFrom, Ints_ren]))
      refine le_mk (m, r, nxA l (nxA l j 3) 3) ?_ ⟨by show m ≤ 6; omega, hok, hL⟩ (by show m < m + 1; omega)
      (refine imp_ren _ _ _ [(0, 0, dice l (nxA l (nxA l j 3) 3)), (1, 1, ⟨Pgs p, 1⟩), (2, 2, ⟨[int 0, int 0, int 0, int 0, int 0, int 0], 6⟩), (3, 3, ⟨[int r.t, int r.p, int r.a, int r.l, int r.s, int r.u], 6⟩)] (by simp) (by simp) (by simp) (Nat.le_of_ble_eq_true rfl) ?_ rfl (by simp only [List.forall_mem_cons, List.not_mem_nil, false_implies, implies_true, and_true, St.hpF, lookR, Nat.reduceEqDiff, if_true, if_false, ↓reduceIte, dice, Pgs_flat] <;> (repeat' apply And.intro) <;> (first | rfl | trivial)) (by simp only [List.forall_mem_cons, List.not_mem_nil, false_implies, implies_true, and_true, true_and, flat_cons, flat_nil, flat_ints, flat_bools, flat_app, Cell.refs, and_self, eq_self_iff_true, List.append_nil, dice, Pgs_flat]); simp only [List.map_cons, List.map_nil, List.forall_mem_cons, List.not_mem_nil, false_implies, implies_true, and_true, lk, slot, SV.ren, Cell.ren, toN, Nat.reduceEqDiff, if_true, if_false, ↓reduceIte, reduceCtorEq])
      all_goals ((repeat' apply And.intro) <;> (first | rfl | trivial | (simp only [hmm]; done) | (simp only [hmm]; rfl) | (simp only [hmm]; trivial)))
  · have d0 : ¬ nxV l j 3 = 0 := by omega
    have d1 : ¬ nxV l j 3 = 1 := by omega
    have hX : rnX p l r j = (pnext p r, nxA l j 3) := by rw [hXX, if_neg d0, if_neg d1]
    clear hXX c1 c2
    generalize pnext p r = y at *
    obtain ⟨y, e⟩ := y
    by_cases he : e = 0
    · have hS : rnS p l (r, j) = (y, nxA l j 3) := by unfold rnS; simp only [hX, he, if_true]
      rw [hS] at hL hok
      simp only [go_sem, Nat.reduceEqDiff, Nat.reduceAdd, Nat.reduceSub, Nat.reduceMul, Nat.reduceLT, Nat.reduceLeDiff, ↓reduceIte, reduceCtorEq, List.reduceReplicate, Int.cast_ofNat_Int, Int.reduceEq, Int.reduceLT, Int.reduceLE, decide_eq_true hlt, lends]
      repeat' (first
    | with_reducible refine And.intro ?_ ?_
    | (unfold OKC; kernel_rfl)
    | (apply okc_up <;> (first | ((repeat (first | exact Sub.nil | apply Sub.gfp | apply Sub.same)); done) | kernel_rfl))
    | (unfold EDG; kernel_rfl)
    | (intros; (try simp only [Bool.and_eq_true, Bool.or_eq_true, Bool.not_eq_true', Bool.not_eq_false', Bool.and_eq_false_iff, Bool.or_eq_false_iff, decide_eq_true_eq, decide_eq_false_iff_not] at *); omega)
    | (refine gt_if (fun h => ?_) (fun h => ?_) <;> (try simp only [h]))
    | (refine pt_if (fun h => ?_) (fun h => ?_) <;> (try simp only [h]))
    | (refine cd_if (fun h => ?_) (fun h => ?_) <;> (try simp only [h]))
    | (apply cl_lend
       case hr => (simp only [List.map_cons, List.map_nil, hpL', lookR, Nat.reduceEqDiff, if_true, if_false]; first | exact map1 _ | exact map2 _ _ | exact map3 _ _ _)
       case ha => (simp only [List.map_cons, List.map_nil, prepV, prepC, idx, hpL', lookR, Nat.reduceEqDiff, if_true, if_false]; rfl)
       case hs => rfl
       case hn => decide
       case h => (first | exact n3 .. | exact c0 .. | exact c0 ..)
       case hf => (simp only [List.forall_mem_cons, List.not_mem_nil, false_implies, implies_true, and_true, true_and, flat_cons, flat_nil, flat_ints, flat_bools, flat_app, Pgs_flat, Cell.refs, and_self, eq_self_iff_true, List.append_nil])
       case hl => (simp only [List.length_cons, List.length_nil]; decide))
    | (apply cl_show
       case ha => (simp only [List.map_cons, List.map_nil, prepV, prepC, idx, hpL', lookR, Nat.reduceEqDiff, if_true, if_false]; rfl)
       case hs => ((simp [snaps, SV.refs, Cell.refs, idx, hpL', lookR]) <;> (repeat' apply And.intro) <;> (first | exact Ints_isG _ | exact Pgs_isG _))
       case h => (first | exact n3 .. | exact c0 .. | exact c0 ..)
       case hg => ((simp [SV.noG, SV.noGL, Cell.noG]) <;> (repeat' apply And.intro) <;> exact Ints_noG _))
    | (apply cl_use
       case hr => (simp only [List.map_cons, List.map_nil, hpL', lookR, Nat.reduceEqDiff, if_true, if_false]; first | exact map0 | exact map1 _ | exact map2 _ _ | exact map3 _ _ _)
       case ha => (simp only [List.map_cons, List.map_nil, prepV, prepC, idx, hpL', lookR, Nat.reduceEqDiff, if_true, if_false]; rfl)
       case hs => (simp only [snaps, SV.refs, Cell.refs, idx, List.flatMap_cons, List.flatMap_nil, List.nil_append, List.cons_append, List.append_nil, List.filter_cons, List.filter_nil, Nat.reduceEqDiff, if_true, if_false, Option.isNone_none, Option.isNone_some, Bool.false_eq_true, reduceCtorEq, ↓reduceIte]; rfl)
       case hn => decide
       case h => (first | exact n3 .. | exact c0 .. | exact c0 ..)
       case hf => (simp only [List.forall_mem_cons, List.not_mem_nil, false_implies, implies_true, and_true, true_and, flat_cons, flat_nil, flat_ints, flat_bools, flat_app, Pgs_flat, Cell.refs, and_self, eq_self_iff_true, List.append_nil])
       case hg => ((simp [hpL', lookR, Cell.isG]) <;> (repeat' apply And.intro) <;> (first | exact Ints_isG _ | exact Pgs_isG _))
       case hl => (simp only [List.length_cons, List.length_nil]; decide))
    | ((first | refine s1_id ?_ | refine swp_id ?_ | refine sops_id ?_ | refine s2_id ?_); simp only [Pgs_ren, decide_eq_true hlt, lends, decide_eq_false d0, decide_eq_false d1, decide_eq_true he, decide_true, go_sem, Nat.reduceEqDiff, Nat.reduceAdd, Nat.reduceSub, Nat.reduceMul, Nat.reduceLT, Nat.reduceLeDiff, ↓reduceIte, reduceCtorEq, List.reduceReplicate, Int.cast_ofNat_Int, Int.reduceEq, Int.reduceLT, Int.reduceLE, SV.ren, SV.renL, Cell.ren, Row.ren, renO, bk, back, outUpsFrom, Ints_ren]))
      refine le_mk (m, y, nxA l j 3) ?_ ⟨by show m ≤ 6; omega, hok, hL⟩ (by show m < m + 1; omega)
      (refine imp_ren _ _ _ [(0, 0, dice l (nxA l j 3)), (1, 1, ⟨Pgs p, 1⟩), (2, 2, ⟨[int 0, int 0, int 0, int 0, int 0, int 0], 6⟩), (3, 3, ⟨[int y.t, int y.p, int y.a, int y.l, int y.s, int y.u], 6⟩)] (by simp) (by simp) (by simp) (Nat.le_of_ble_eq_true rfl) ?_ rfl (by simp only [List.forall_mem_cons, List.not_mem_nil, false_implies, implies_true, and_true, St.hpF, lookR, Nat.reduceEqDiff, if_true, if_false, ↓reduceIte, dice, Pgs_flat] <;> (repeat' apply And.intro) <;> (first | rfl | trivial)) (by simp only [List.forall_mem_cons, List.not_mem_nil, false_implies, implies_true, and_true, true_and, flat_cons, flat_nil, flat_ints, flat_bools, flat_app, Cell.refs, and_self, eq_self_iff_true, List.append_nil, dice, Pgs_flat]); simp only [List.map_cons, List.map_nil, List.forall_mem_cons, List.not_mem_nil, false_implies, implies_true, and_true, lk, slot, SV.ren, Cell.ren, toN, Nat.reduceEqDiff, if_true, if_false, ↓reduceIte, reduceCtorEq])
      all_goals ((repeat' apply And.intro) <;> (first | rfl | trivial | (simp only [hmm]; done) | (simp only [hmm]; rfl) | (simp only [hmm]; trivial)))
    · have hS : rnS p l (r, j) = (r, nxA l j 3) := by unfold rnS; simp only [hX, he, if_false]
      rw [hS] at hL hok
      simp only [go_sem, Nat.reduceEqDiff, Nat.reduceAdd, Nat.reduceSub, Nat.reduceMul, Nat.reduceLT, Nat.reduceLeDiff, ↓reduceIte, reduceCtorEq, List.reduceReplicate, Int.cast_ofNat_Int, Int.reduceEq, Int.reduceLT, Int.reduceLE, decide_eq_true hlt, lends]
      repeat' (first
    | with_reducible refine And.intro ?_ ?_
    | (unfold OKC; kernel_rfl)
    | (apply okc_up <;> (first | ((repeat (first | exact Sub.nil | apply Sub.gfp | apply Sub.same)); done) | kernel_rfl))
    | (unfold EDG; kernel_rfl)
    | (intros; (try simp only [Bool.and_eq_true, Bool.or_eq_true, Bool.not_eq_true', Bool.not_eq_false', Bool.and_eq_false_iff, Bool.or_eq_false_iff, decide_eq_true_eq, decide_eq_false_iff_not] at *); omega)
    | (refine gt_if (fun h => ?_) (fun h => ?_) <;> (try simp only [h]))
    | (refine pt_if (fun h => ?_) (fun h => ?_) <;> (try simp only [h]))
    | (refine cd_if (fun h => ?_) (fun h => ?_) <;> (try simp only [h]))
    | (apply cl_lend
       case hr => (simp only [List.map_cons, List.map_nil, hpL', lookR, Nat.reduceEqDiff, if_true, if_false]; first | exact map1 _ | exact map2 _ _ | exact map3 _ _ _)
       case ha => (simp only [List.map_cons, List.map_nil, prepV, prepC, idx, hpL', lookR, Nat.reduceEqDiff, if_true, if_false]; rfl)
       case hs => rfl
       case hn => decide
       case h => (first | exact n3 .. | exact c0 .. | exact c0 ..)
       case hf => (simp only [List.forall_mem_cons, List.not_mem_nil, false_implies, implies_true, and_true, true_and, flat_cons, flat_nil, flat_ints, flat_bools, flat_app, Pgs_flat, Cell.refs, and_self, eq_self_iff_true, List.append_nil])
       case hl => (simp only [List.length_cons, List.length_nil]; decide))
    | (apply cl_show
       case ha => (simp only [List.map_cons, List.map_nil, prepV, prepC, idx, hpL', lookR, Nat.reduceEqDiff, if_true, if_false]; rfl)
       case hs => ((simp [snaps, SV.refs, Cell.refs, idx, hpL', lookR]) <;> (repeat' apply And.intro) <;> (first | exact Ints_isG _ | exact Pgs_isG _))
       case h => (first | exact n3 .. | exact c0 .. | exact c0 ..)
       case hg => ((simp [SV.noG, SV.noGL, Cell.noG]) <;> (repeat' apply And.intro) <;> exact Ints_noG _))
    | (apply cl_use
       case hr => (simp only [List.map_cons, List.map_nil, hpL', lookR, Nat.reduceEqDiff, if_true, if_false]; first | exact map0 | exact map1 _ | exact map2 _ _ | exact map3 _ _ _)
       case ha => (simp only [List.map_cons, List.map_nil, prepV, prepC, idx, hpL', lookR, Nat.reduceEqDiff, if_true, if_false]; rfl)
       case hs => (simp only [snaps, SV.refs, Cell.refs, idx, List.flatMap_cons, List.flatMap_nil, List.nil_append, List.cons_append, List.append_nil, List.filter_cons, List.filter_nil, Nat.reduceEqDiff, if_true, if_false, Option.isNone_none, Option.isNone_some, Bool.false_eq_true, reduceCtorEq, ↓reduceIte]; rfl)
       case hn => decide
       case h => (first | exact n3 .. | exact c0 .. | exact c0 ..)
       case hf => (simp only [List.forall_mem_cons, List.not_mem_nil, false_implies, implies_true, and_true, true_and, flat_cons, flat_nil, flat_ints, flat_bools, flat_app, Pgs_flat, Cell.refs, and_self, eq_self_iff_true, List.append_nil])
       case hg => ((simp [hpL', lookR, Cell.isG]) <;> (repeat' apply And.intro) <;> (first | exact Ints_isG _ | exact Pgs_isG _))
       case hl => (simp only [List.length_cons, List.length_nil]; decide))
    | ((first | refine s1_id ?_ | refine swp_id ?_ | refine sops_id ?_ | refine s2_id ?_); simp only [Pgs_ren, decide_eq_true hlt, lends, decide_eq_false d0, decide_eq_false d1, decide_eq_false he, decide_true, go_sem, Nat.reduceEqDiff, Nat.reduceAdd, Nat.reduceSub, Nat.reduceMul, Nat.reduceLT, Nat.reduceLeDiff, ↓reduceIte, reduceCtorEq, List.reduceReplicate, Int.cast_ofNat_Int, Int.reduceEq, Int.reduceLT, Int.reduceLE, SV.ren, SV.renL, Cell.ren, Row.ren, renO, bk, back, outUpsFrom, Ints_ren]))
      refine le_mk (m, r, nxA l j 3) ?_ ⟨by show m ≤ 6; omega, hok, hL⟩ (by show m < m + 1; omega)
      (refine imp_ren _ _ _ [(0, 0, dice l (nxA l j 3)), (1, 1, ⟨Pgs p, 1⟩), (2, 2, ⟨[int 0, int 0, int 0, int 0, int 0, int 0], 6⟩), (3, 3, ⟨[int r.t, int r.p, int r.a, int r.l, int r.s, int r.u], 6⟩)] (by simp) (by simp) (by simp) (Nat.le_of_ble_eq_true rfl) ?_ rfl (by simp only [List.forall_mem_cons, List.not_mem_nil, false_implies, implies_true, and_true, St.hpF, lookR, Nat.reduceEqDiff, if_true, if_false, ↓reduceIte, dice, Pgs_flat] <;> (repeat' apply And.intro) <;> (first | rfl | trivial)) (by simp only [List.forall_mem_cons, List.not_mem_nil, false_implies, implies_true, and_true, true_and, flat_cons, flat_nil, flat_ints, flat_bools, flat_app, Cell.refs, and_self, eq_self_iff_true, List.append_nil, dice, Pgs_flat]); simp only [List.map_cons, List.map_nil, List.forall_mem_cons, List.not_mem_nil, false_implies, implies_true, and_true, lk, slot, SV.ren, Cell.ren, toN, Nat.reduceEqDiff, if_true, if_false, ↓reduceIte, reduceCtorEq])
      all_goals ((repeat' apply And.intro) <;> (first | rfl | trivial | (simp only [hmm]; done) | (simp only [hmm]; rfl) | (simp only [hmm]; trivial)))
end Go.Proofs.Ytdpekegikbbeoaa
