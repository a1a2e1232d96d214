/- Contracts of functions, told of values, on the way to BucketExact. -/
import Derived.Test.YtcfkmkabjalgjacTyAc
import Derived.Test.YtcfkmkabjalgjacBx3Ac
namespace Go.Proofs.Ytcfkmkabjalgjac
set_option linter.unusedVariables false
set_option linter.unusedSimpArgs false
open Go.Proofs.Ytcfkmkabjalgjac.Sh
theorem exact_spec (b : Bk) (rate per burst now n : Int) : FnSpec Try.prog 13 [bkt b, i1 rate, i1 per, i1 burst, i1 now, i1 n] [] (b1 true) [] := by
  obtain ⟨r, p, s, l, t⟩ := b
  refine fnspec_of mixed TT_ok TT_cl ⟨fun _ => false, fun _ => [], 0, fun _ => false, fun _ => false⟩ Try.func13 rfl (by kernel_rfl) rfl 157 rfl [.tmp 12] rfl ?_
  simp only [go_sem, Nat.reduceEqDiff, Nat.reduceAdd, Nat.reduceSub, Nat.reduceMul, Nat.reduceLT, Nat.reduceLeDiff, ↓reduceIte, reduceCtorEq, List.reduceReplicate, Int.cast_ofNat_Int, bkc]
  repeat' (first
    | with_reducible refine And.intro ?_ ?_
    | (unfold OKC; kernel_rfl)
    | (apply okc_up <;> (first | ((repeat (first | exact Sub.nil | apply Sub.gfp | apply Sub.same)); done) | kernel_rfl))
    | (unfold EDG; kernel_rfl)
    | (intros; (try simp only [Bool.and_eq_true, Bool.or_eq_true, Bool.not_eq_true', Bool.not_eq_false', Bool.and_eq_false_iff, Bool.or_eq_false_iff, decide_eq_true_eq, decide_eq_false_iff_not] at *); omega)
    | (refine cd_if (fun h => ?_) (fun h => ?_) <;> (first | (simp only [h, bkc, go_sem, Nat.reduceEqDiff, Nat.reduceAdd, Nat.reduceSub, Nat.reduceMul, Nat.reduceLT, Nat.reduceLeDiff, ↓reduceIte, reduceCtorEq, List.reduceReplicate, Int.cast_ofNat_Int]; done) | simp only [h, bkc, go_sem, Nat.reduceEqDiff, Nat.reduceAdd, Nat.reduceSub, Nat.reduceMul, Nat.reduceLT, Nat.reduceLeDiff, ↓reduceIte, reduceCtorEq, List.reduceReplicate, Int.cast_ofNat_Int] | skip))
    | (apply cg_tp
       case hl => rfl
       case ha => (simp only [List.map_cons, List.map_nil, prepV, prepC, idx, hpL', lookR, Nat.reduceEqDiff, if_true, if_false]; rfl)
       case hs => rfl
       case h => (first | exact new_spec .. | exact rnew_spec .. | exact adv_spec (.mk _ _ _ _ _) _ | exact radv_spec (.mk _ _ _ _ _) _ | exact valid_spec (.mk _ _ _ _ _) | exact rvalid_spec (.mk _ _ _ _ _) | exact tok_spec (.mk _ _ _ _ _) | exact rtok_spec (.mk _ _ _ _ _) | exact take_spec (.mk _ _ _ _ _) _ _ | exact rtake_spec (.mk _ _ _ _ _) _ _ | exact when_spec (.mk _ _ _ _ _) _ | exact rwhen_spec (.mk _ _ _ _ _) _ | exact change_spec (.mk _ _ _ _ _) _ _ _ _ | exact rchange_spec (.mk _ _ _ _ _) _ _ _ _)
       case' hk => simp only [bkc, go_sem, Nat.reduceEqDiff, Nat.reduceAdd, Nat.reduceSub, Nat.reduceMul, Nat.reduceLT, Nat.reduceLeDiff, ↓reduceIte, reduceCtorEq, List.reduceReplicate, Int.cast_ofNat_Int, SV.ren, SV.renL, Cell.ren])
    | (apply cg_ts
       case hl => rfl
       case ha => (simp only [List.map_cons, List.map_nil, prepV, prepC, idx, hpL', lookR, Nat.reduceEqDiff, if_true, if_false]; rfl)
       case hs => (simp only [snaps_nil, List.flatMap_cons, List.flatMap_nil, SV.refs, Cell.refs, List.nil_append, List.cons_append, List.append_nil]; rfl)
       case h => (first | exact new_spec .. | exact rnew_spec .. | exact adv_spec (.mk _ _ _ _ _) _ | exact radv_spec (.mk _ _ _ _ _) _ | exact valid_spec (.mk _ _ _ _ _) | exact rvalid_spec (.mk _ _ _ _ _) | exact tok_spec (.mk _ _ _ _ _) | exact rtok_spec (.mk _ _ _ _ _) | exact take_spec (.mk _ _ _ _ _) _ _ | exact rtake_spec (.mk _ _ _ _ _) _ _ | exact when_spec (.mk _ _ _ _ _) _ | exact rwhen_spec (.mk _ _ _ _ _) _ | exact change_spec (.mk _ _ _ _ _) _ _ _ _ | exact rchange_spec (.mk _ _ _ _ _) _ _ _ _)
       case hf => ((simp only [List.forall_mem_cons, List.not_mem_nil, false_implies, implies_true, and_true, hpL', lookR, Nat.reduceEqDiff, if_true, if_false]) <;> (repeat' apply And.intro) <;> exact ⟨_, rfl, Ints_isG _⟩)
       case hg => simp [SV.noG, SV.noGL, Cell.noG]
       case' hk => simp only [bkc, go_sem, Nat.reduceEqDiff, Nat.reduceAdd, Nat.reduceSub, Nat.reduceMul, Nat.reduceLT, Nat.reduceLeDiff, ↓reduceIte, reduceCtorEq, List.reduceReplicate, Int.cast_ofNat_Int, SV.ren, SV.renL, Cell.ren])
    | (apply cg_any
       case hl => rfl
       case ha => (intro hb; simp only [List.map_cons, List.map_nil, cnd, hb, if_true, prepV, prepC, idx, hpL', lookR, Nat.reduceEqDiff, if_false]; rfl)
       case hs => (intro hb; simp only [cnd, hb, if_true]; rfl)
       case h => (first | exact new_spec .. | exact rnew_spec .. | exact adv_spec (.mk _ _ _ _ _) _ | exact radv_spec (.mk _ _ _ _ _) _ | exact valid_spec (.mk _ _ _ _ _) | exact rvalid_spec (.mk _ _ _ _ _) | exact tok_spec (.mk _ _ _ _ _) | exact rtok_spec (.mk _ _ _ _ _) | exact take_spec (.mk _ _ _ _ _) _ _ | exact rtake_spec (.mk _ _ _ _ _) _ _ | exact when_spec (.mk _ _ _ _ _) _ | exact rwhen_spec (.mk _ _ _ _ _) _ | exact change_spec (.mk _ _ _ _ _) _ _ _ _ | exact rchange_spec (.mk _ _ _ _ _) _ _ _ _)
       case' hk => simp only [bkc, go_sem, Nat.reduceEqDiff, Nat.reduceAdd, Nat.reduceSub, Nat.reduceMul, Nat.reduceLT, Nat.reduceLeDiff, ↓reduceIte, reduceCtorEq, List.reduceReplicate, Int.cast_ofNat_Int, SV.ren, SV.renL, Cell.ren])
    | (apply cg_show
       case hl => rfl
       case ha => (intro hb; simp only [List.map_cons, List.map_nil, cnd, hb, if_true, prepV, prepC, idx, hpL', lookR, Nat.reduceEqDiff, if_false]; rfl)
       case hs => (intro hb; simp only [cnd, hb, if_true, snaps_nil, List.flatMap_cons, List.flatMap_nil, SV.refs, Cell.refs, List.nil_append, List.cons_append, List.append_nil]; rfl)
       case h => (first | exact new_spec .. | exact rnew_spec .. | exact adv_spec (.mk _ _ _ _ _) _ | exact radv_spec (.mk _ _ _ _ _) _ | exact valid_spec (.mk _ _ _ _ _) | exact rvalid_spec (.mk _ _ _ _ _) | exact tok_spec (.mk _ _ _ _ _) | exact rtok_spec (.mk _ _ _ _ _) | exact take_spec (.mk _ _ _ _ _) _ _ | exact rtake_spec (.mk _ _ _ _ _) _ _ | exact when_spec (.mk _ _ _ _ _) _ | exact rwhen_spec (.mk _ _ _ _ _) _ | exact change_spec (.mk _ _ _ _ _) _ _ _ _ | exact rchange_spec (.mk _ _ _ _ _) _ _ _ _)
       case hf => ((simp only [List.forall_mem_cons, List.not_mem_nil, false_implies, implies_true, and_true, hpL', lookR, Nat.reduceEqDiff, if_true, if_false]) <;> (repeat' apply And.intro) <;> exact ⟨_, rfl, Ints_isG _⟩)
       case hg => simp [SV.noG, SV.noGL, Cell.noG]
       case' hk => simp only [bkc, go_sem, Nat.reduceEqDiff, Nat.reduceAdd, Nat.reduceSub, Nat.reduceMul, Nat.reduceLT, Nat.reduceLeDiff, ↓reduceIte, reduceCtorEq, List.reduceReplicate, Int.cast_ofNat_Int, SV.ren, SV.renL, Cell.ren])
    | (apply cl_plain
       case hs => rfl
       case ha => (simp only [List.map_cons, List.map_nil, prepV, prepC, idx, hpL', lookR, Nat.reduceEqDiff, if_true, if_false]; rfl)
       case h => (first | exact new_spec .. | exact rnew_spec .. | exact adv_spec (.mk _ _ _ _ _) _ | exact radv_spec (.mk _ _ _ _ _) _ | exact valid_spec (.mk _ _ _ _ _) | exact rvalid_spec (.mk _ _ _ _ _) | exact tok_spec (.mk _ _ _ _ _) | exact rtok_spec (.mk _ _ _ _ _) | exact take_spec (.mk _ _ _ _ _) _ _ | exact rtake_spec (.mk _ _ _ _ _) _ _ | exact when_spec (.mk _ _ _ _ _) _ | exact rwhen_spec (.mk _ _ _ _ _) _ | exact change_spec (.mk _ _ _ _ _) _ _ _ _ | exact rchange_spec (.mk _ _ _ _ _) _ _ _ _)
       case' hk => simp only [bkc, go_sem, Nat.reduceEqDiff, Nat.reduceAdd, Nat.reduceSub, Nat.reduceMul, Nat.reduceLT, Nat.reduceLeDiff, ↓reduceIte, reduceCtorEq, List.reduceReplicate, Int.cast_ofNat_Int, SV.ren, SV.renL, Cell.ren, Row.ren, renO, bk, back, outUpsFrom, Ints_ren])
    | (apply cl_lend
       case hr => (simp only [List.map_cons, List.map_nil, hpL', lookR, Nat.reduceEqDiff, if_true, if_false]; first | exact map1 _ | exact map2 _ _ | exact map3 _ _ _)
       case ha => (simp only [List.map_cons, List.map_nil, prepV, prepC, idx, hpL', lookR, Nat.reduceEqDiff, if_true, if_false]; rfl)
       case hs => rfl
       case hn => decide
       case h => (first | exact new_spec .. | exact rnew_spec .. | exact adv_spec (.mk _ _ _ _ _) _ | exact radv_spec (.mk _ _ _ _ _) _ | exact valid_spec (.mk _ _ _ _ _) | exact rvalid_spec (.mk _ _ _ _ _) | exact tok_spec (.mk _ _ _ _ _) | exact rtok_spec (.mk _ _ _ _ _) | exact take_spec (.mk _ _ _ _ _) _ _ | exact rtake_spec (.mk _ _ _ _ _) _ _ | exact when_spec (.mk _ _ _ _ _) _ | exact rwhen_spec (.mk _ _ _ _ _) _ | exact change_spec (.mk _ _ _ _ _) _ _ _ _ | exact rchange_spec (.mk _ _ _ _ _) _ _ _ _)
       case hf => (simp only [List.forall_mem_cons, List.not_mem_nil, false_implies, implies_true, and_true, true_and, flat_cons, flat_nil, flat_ints, flat_app, Cell.refs, and_self, eq_self_iff_true, List.append_nil])
       case hl => (simp only [List.length_cons, List.length_nil]; decide)
       case' hk => simp only [bkc, go_sem, Nat.reduceEqDiff, Nat.reduceAdd, Nat.reduceSub, Nat.reduceMul, Nat.reduceLT, Nat.reduceLeDiff, ↓reduceIte, reduceCtorEq, List.reduceReplicate, Int.cast_ofNat_Int, SV.ren, SV.renL, Cell.ren, Row.ren, renO, bk, back, outUpsFrom, Ints_ren])
    | (apply cl_show
       case ha => (simp only [List.map_cons, List.map_nil, prepV, prepC, idx, hpL', lookR, Nat.reduceEqDiff, if_true, if_false]; rfl)
       case hs => ((simp [snaps, SV.refs, Cell.refs, idx, hpL', lookR]) <;> (repeat' apply And.intro) <;> exact Ints_isG _)
       case h => (first | exact new_spec .. | exact rnew_spec .. | exact adv_spec (.mk _ _ _ _ _) _ | exact radv_spec (.mk _ _ _ _ _) _ | exact valid_spec (.mk _ _ _ _ _) | exact rvalid_spec (.mk _ _ _ _ _) | exact tok_spec (.mk _ _ _ _ _) | exact rtok_spec (.mk _ _ _ _ _) | exact take_spec (.mk _ _ _ _ _) _ _ | exact rtake_spec (.mk _ _ _ _ _) _ _ | exact when_spec (.mk _ _ _ _ _) _ | exact rwhen_spec (.mk _ _ _ _ _) _ | exact change_spec (.mk _ _ _ _ _) _ _ _ _ | exact rchange_spec (.mk _ _ _ _ _) _ _ _ _)
       case hg => ((simp [SV.noG, SV.noGL, Cell.noG]) <;> (repeat' apply And.intro) <;> exact Ints_noG _)
       case' hk => simp only [bkc, go_sem, Nat.reduceEqDiff, Nat.reduceAdd, Nat.reduceSub, Nat.reduceMul, Nat.reduceLT, Nat.reduceLeDiff, ↓reduceIte, reduceCtorEq, List.reduceReplicate, Int.cast_ofNat_Int, SV.ren, SV.renL, Cell.ren, Row.ren, renO, bk, back, outUpsFrom, Ints_ren])
    | (apply cl_use
       case hr => (simp only [List.map_cons, List.map_nil, hpL', lookR, Nat.reduceEqDiff, if_true, if_false]; first | exact map0 | exact map1 _ | exact map2 _ _ | exact map3 _ _ _)
       case ha => (simp only [List.map_cons, List.map_nil, prepV, prepC, idx, hpL', lookR, Nat.reduceEqDiff, if_true, if_false]; rfl)
       case hs => (simp only [snaps, SV.refs, Cell.refs, idx, List.flatMap_cons, List.flatMap_nil, List.nil_append, List.cons_append, List.append_nil, List.filter_cons, List.filter_nil, Nat.reduceEqDiff, if_true, if_false, Option.isNone_none, Option.isNone_some, Bool.false_eq_true, reduceCtorEq, ↓reduceIte]; rfl)
       case hn => decide
       case h => (first | exact new_spec .. | exact rnew_spec .. | exact adv_spec (.mk _ _ _ _ _) _ | exact radv_spec (.mk _ _ _ _ _) _ | exact valid_spec (.mk _ _ _ _ _) | exact rvalid_spec (.mk _ _ _ _ _) | exact tok_spec (.mk _ _ _ _ _) | exact rtok_spec (.mk _ _ _ _ _) | exact take_spec (.mk _ _ _ _ _) _ _ | exact rtake_spec (.mk _ _ _ _ _) _ _ | exact when_spec (.mk _ _ _ _ _) _ | exact rwhen_spec (.mk _ _ _ _ _) _ | exact change_spec (.mk _ _ _ _ _) _ _ _ _ | exact rchange_spec (.mk _ _ _ _ _) _ _ _ _)
       case hf => (simp only [List.forall_mem_cons, List.not_mem_nil, false_implies, implies_true, and_true, true_and, flat_cons, flat_nil, flat_ints, flat_app, Cell.refs, and_self, eq_self_iff_true, List.append_nil])
       case hg => ((simp [hpL', lookR, Cell.isG]) <;> (repeat' apply And.intro) <;> exact Ints_isG _)
       case hl => (simp only [List.length_cons, List.length_nil]; decide)
       case' hk => simp only [bkc, go_sem, Nat.reduceEqDiff, Nat.reduceAdd, Nat.reduceSub, Nat.reduceMul, Nat.reduceLT, Nat.reduceLeDiff, ↓reduceIte, reduceCtorEq, List.reduceReplicate, Int.cast_ofNat_Int, SV.ren, SV.renL, Cell.ren, Row.ren, renO, bk, back, outUpsFrom, Ints_ren])
    | (apply fs_nil <;> (try simp only [go_sem, resV, resS, SV.ren, SV.renL, Cell.ren, St.tmF, St.hpF, idx, renO, Row.ren, evS, slot, lookR, Nat.reduceEqDiff, ↓reduceIte, reduceCtorEq, if_true, if_false, Option.getD_some, Option.getD_none, List.map_cons, List.map_nil, sLoad, readAt, readNeed, Ints_ren, Ints_length, Ints_getD, and_true, true_and, List.getD_cons_zero, List.getD_cons_succ]) <;> (try rfl)))
  simp at h
theorem bsane_spec : FnSpec Try.prog 9 [] [] (b1 true) [] := by
  refine fnspec_of mixed TT_ok TT_cl ⟨fun _ => false, fun _ => [], 0, fun _ => false, fun _ => false⟩ Try.func9 rfl (by kernel_rfl) rfl 91 rfl [.tmp 0] rfl ?_
  simp only [go_sem, Nat.reduceEqDiff, Nat.reduceAdd, Nat.reduceSub, Nat.reduceMul, Nat.reduceLT, Nat.reduceLeDiff, ↓reduceIte, reduceCtorEq, List.reduceReplicate, Int.cast_ofNat_Int]
  repeat' (first
    | with_reducible refine And.intro ?_ ?_
    | (unfold OKC; kernel_rfl)
    | (apply okc_up <;> (first | ((repeat (first | exact Sub.nil | apply Sub.gfp | apply Sub.same)); done) | kernel_rfl))
    | (unfold EDG; kernel_rfl)
    | (intros; (try simp only [Bool.and_eq_true, Bool.or_eq_true, Bool.not_eq_true', Bool.not_eq_false', Bool.and_eq_false_iff, Bool.or_eq_false_iff, decide_eq_true_eq, decide_eq_false_iff_not] at *); omega)
    | (refine cd_if (fun h => ?_) (fun h => ?_) <;> (first | (simp only [h, bkc, go_sem, Nat.reduceEqDiff, Nat.reduceAdd, Nat.reduceSub, Nat.reduceMul, Nat.reduceLT, Nat.reduceLeDiff, ↓reduceIte, reduceCtorEq, List.reduceReplicate, Int.cast_ofNat_Int]; done) | simp only [h, bkc, go_sem, Nat.reduceEqDiff, Nat.reduceAdd, Nat.reduceSub, Nat.reduceMul, Nat.reduceLT, Nat.reduceLeDiff, ↓reduceIte, reduceCtorEq, List.reduceReplicate, Int.cast_ofNat_Int] | skip))
    | (apply cg_tp
       case hl => rfl
       case ha => (simp only [List.map_cons, List.map_nil, prepV, prepC, idx, hpL', lookR, Nat.reduceEqDiff, if_true, if_false]; rfl)
       case hs => rfl
       case h => (first | exact new_spec .. | exact rnew_spec .. | exact adv_spec (.mk _ _ _ _ _) _ | exact radv_spec (.mk _ _ _ _ _) _ | exact valid_spec (.mk _ _ _ _ _) | exact rvalid_spec (.mk _ _ _ _ _) | exact tok_spec (.mk _ _ _ _ _) | exact rtok_spec (.mk _ _ _ _ _) | exact take_spec (.mk _ _ _ _ _) _ _ | exact rtake_spec (.mk _ _ _ _ _) _ _ | exact when_spec (.mk _ _ _ _ _) _ | exact rwhen_spec (.mk _ _ _ _ _) _ | exact change_spec (.mk _ _ _ _ _) _ _ _ _ | exact rchange_spec (.mk _ _ _ _ _) _ _ _ _)
       case' hk => simp only [bkc, go_sem, Nat.reduceEqDiff, Nat.reduceAdd, Nat.reduceSub, Nat.reduceMul, Nat.reduceLT, Nat.reduceLeDiff, ↓reduceIte, reduceCtorEq, List.reduceReplicate, Int.cast_ofNat_Int, SV.ren, SV.renL, Cell.ren])
    | (apply cg_ts
       case hl => rfl
       case ha => (simp only [List.map_cons, List.map_nil, prepV, prepC, idx, hpL', lookR, Nat.reduceEqDiff, if_true, if_false]; rfl)
       case hs => (simp only [snaps_nil, List.flatMap_cons, List.flatMap_nil, SV.refs, Cell.refs, List.nil_append, List.cons_append, List.append_nil]; rfl)
       case h => (first | exact new_spec .. | exact rnew_spec .. | exact adv_spec (.mk _ _ _ _ _) _ | exact radv_spec (.mk _ _ _ _ _) _ | exact valid_spec (.mk _ _ _ _ _) | exact rvalid_spec (.mk _ _ _ _ _) | exact tok_spec (.mk _ _ _ _ _) | exact rtok_spec (.mk _ _ _ _ _) | exact take_spec (.mk _ _ _ _ _) _ _ | exact rtake_spec (.mk _ _ _ _ _) _ _ | exact when_spec (.mk _ _ _ _ _) _ | exact rwhen_spec (.mk _ _ _ _ _) _ | exact change_spec (.mk _ _ _ _ _) _ _ _ _ | exact rchange_spec (.mk _ _ _ _ _) _ _ _ _)
       case hf => ((simp only [List.forall_mem_cons, List.not_mem_nil, false_implies, implies_true, and_true, hpL', lookR, Nat.reduceEqDiff, if_true, if_false]) <;> (repeat' apply And.intro) <;> exact ⟨_, rfl, Ints_isG _⟩)
       case hg => simp [SV.noG, SV.noGL, Cell.noG]
       case' hk => simp only [bkc, go_sem, Nat.reduceEqDiff, Nat.reduceAdd, Nat.reduceSub, Nat.reduceMul, Nat.reduceLT, Nat.reduceLeDiff, ↓reduceIte, reduceCtorEq, List.reduceReplicate, Int.cast_ofNat_Int, SV.ren, SV.renL, Cell.ren])
    | (apply cg_any
       case hl => rfl
       case ha => (intro hb; simp only [List.map_cons, List.map_nil, cnd, hb, if_true, prepV, prepC, idx, hpL', lookR, Nat.reduceEqDiff, if_false]; rfl)
       case hs => (intro hb; simp only [cnd, hb, if_true]; rfl)
       case h => (first | exact new_spec .. | exact rnew_spec .. | exact adv_spec (.mk _ _ _ _ _) _ | exact radv_spec (.mk _ _ _ _ _) _ | exact valid_spec (.mk _ _ _ _ _) | exact rvalid_spec (.mk _ _ _ _ _) | exact tok_spec (.mk _ _ _ _ _) | exact rtok_spec (.mk _ _ _ _ _) | exact take_spec (.mk _ _ _ _ _) _ _ | exact rtake_spec (.mk _ _ _ _ _) _ _ | exact when_spec (.mk _ _ _ _ _) _ | exact rwhen_spec (.mk _ _ _ _ _) _ | exact change_spec (.mk _ _ _ _ _) _ _ _ _ | exact rchange_spec (.mk _ _ _ _ _) _ _ _ _)
       case' hk => simp only [bkc, go_sem, Nat.reduceEqDiff, Nat.reduceAdd, Nat.reduceSub, Nat.reduceMul, Nat.reduceLT, Nat.reduceLeDiff, ↓reduceIte, reduceCtorEq, List.reduceReplicate, Int.cast_ofNat_Int, SV.ren, SV.renL, Cell.ren])
    | (apply cg_show
       case hl => rfl
       case ha => (intro hb; simp only [List.map_cons, List.map_nil, cnd, hb, if_true, prepV, prepC, idx, hpL', lookR, Nat.reduceEqDiff, if_false]; rfl)
       case hs => (intro hb; simp only [cnd, hb, if_true, snaps_nil, List.flatMap_cons, List.flatMap_nil, SV.refs, Cell.refs, List.nil_append, List.cons_append, List.append_nil]; rfl)
       case h => (first | exact new_spec .. | exact rnew_spec .. | exact adv_spec (.mk _ _ _ _ _) _ | exact radv_spec (.mk _ _ _ _ _) _ | exact valid_spec (.mk _ _ _ _ _) | exact rvalid_spec (.mk _ _ _ _ _) | exact tok_spec (.mk _ _ _ _ _) | exact rtok_spec (.mk _ _ _ _ _) | exact take_spec (.mk _ _ _ _ _) _ _ | exact rtake_spec (.mk _ _ _ _ _) _ _ | exact when_spec (.mk _ _ _ _ _) _ | exact rwhen_spec (.mk _ _ _ _ _) _ | exact change_spec (.mk _ _ _ _ _) _ _ _ _ | exact rchange_spec (.mk _ _ _ _ _) _ _ _ _)
       case hf => ((simp only [List.forall_mem_cons, List.not_mem_nil, false_implies, implies_true, and_true, hpL', lookR, Nat.reduceEqDiff, if_true, if_false]) <;> (repeat' apply And.intro) <;> exact ⟨_, rfl, Ints_isG _⟩)
       case hg => simp [SV.noG, SV.noGL, Cell.noG]
       case' hk => simp only [bkc, go_sem, Nat.reduceEqDiff, Nat.reduceAdd, Nat.reduceSub, Nat.reduceMul, Nat.reduceLT, Nat.reduceLeDiff, ↓reduceIte, reduceCtorEq, List.reduceReplicate, Int.cast_ofNat_Int, SV.ren, SV.renL, Cell.ren])
    | (apply cl_plain
       case hs => rfl
       case ha => (simp only [List.map_cons, List.map_nil, prepV, prepC, idx, hpL', lookR, Nat.reduceEqDiff, if_true, if_false]; rfl)
       case h => (first | exact new_spec .. | exact rnew_spec .. | exact adv_spec (.mk _ _ _ _ _) _ | exact radv_spec (.mk _ _ _ _ _) _ | exact valid_spec (.mk _ _ _ _ _) | exact rvalid_spec (.mk _ _ _ _ _) | exact tok_spec (.mk _ _ _ _ _) | exact rtok_spec (.mk _ _ _ _ _) | exact take_spec (.mk _ _ _ _ _) _ _ | exact rtake_spec (.mk _ _ _ _ _) _ _ | exact when_spec (.mk _ _ _ _ _) _ | exact rwhen_spec (.mk _ _ _ _ _) _ | exact change_spec (.mk _ _ _ _ _) _ _ _ _ | exact rchange_spec (.mk _ _ _ _ _) _ _ _ _)
       case' hk => simp only [bkc, go_sem, Nat.reduceEqDiff, Nat.reduceAdd, Nat.reduceSub, Nat.reduceMul, Nat.reduceLT, Nat.reduceLeDiff, ↓reduceIte, reduceCtorEq, List.reduceReplicate, Int.cast_ofNat_Int, SV.ren, SV.renL, Cell.ren, Row.ren, renO, bk, back, outUpsFrom, Ints_ren])
    | (apply cl_lend
       case hr => (simp only [List.map_cons, List.map_nil, hpL', lookR, Nat.reduceEqDiff, if_true, if_false]; first | exact map1 _ | exact map2 _ _ | exact map3 _ _ _)
       case ha => (simp only [List.map_cons, List.map_nil, prepV, prepC, idx, hpL', lookR, Nat.reduceEqDiff, if_true, if_false]; rfl)
       case hs => rfl
       case hn => decide
       case h => (first | exact new_spec .. | exact rnew_spec .. | exact adv_spec (.mk _ _ _ _ _) _ | exact radv_spec (.mk _ _ _ _ _) _ | exact valid_spec (.mk _ _ _ _ _) | exact rvalid_spec (.mk _ _ _ _ _) | exact tok_spec (.mk _ _ _ _ _) | exact rtok_spec (.mk _ _ _ _ _) | exact take_spec (.mk _ _ _ _ _) _ _ | exact rtake_spec (.mk _ _ _ _ _) _ _ | exact when_spec (.mk _ _ _ _ _) _ | exact rwhen_spec (.mk _ _ _ _ _) _ | exact change_spec (.mk _ _ _ _ _) _ _ _ _ | exact rchange_spec (.mk _ _ _ _ _) _ _ _ _)
       case hf => (simp only [List.forall_mem_cons, List.not_mem_nil, false_implies, implies_true, and_true, true_and, flat_cons, flat_nil, flat_ints, flat_app, Cell.refs, and_self, eq_self_iff_true, List.append_nil])
       case hl => (simp only [List.length_cons, List.length_nil]; decide)
       case' hk => simp only [bkc, go_sem, Nat.reduceEqDiff, Nat.reduceAdd, Nat.reduceSub, Nat.reduceMul, Nat.reduceLT, Nat.reduceLeDiff, ↓reduceIte, reduceCtorEq, List.reduceReplicate, Int.cast_ofNat_Int, SV.ren, SV.renL, Cell.ren, Row.ren, renO, bk, back, outUpsFrom, Ints_ren])
    | (apply cl_show
       case ha => (simp only [List.map_cons, List.map_nil, prepV, prepC, idx, hpL', lookR, Nat.reduceEqDiff, if_true, if_false]; rfl)
       case hs => ((simp [snaps, SV.refs, Cell.refs, idx, hpL', lookR]) <;> (repeat' apply And.intro) <;> exact Ints_isG _)
       case h => (first | exact new_spec .. | exact rnew_spec .. | exact adv_spec (.mk _ _ _ _ _) _ | exact radv_spec (.mk _ _ _ _ _) _ | exact valid_spec (.mk _ _ _ _ _) | exact rvalid_spec (.mk _ _ _ _ _) | exact tok_spec (.mk _ _ _ _ _) | exact rtok_spec (.mk _ _ _ _ _) | exact take_spec (.mk _ _ _ _ _) _ _ | exact rtake_spec (.mk _ _ _ _ _) _ _ | exact when_spec (.mk _ _ _ _ _) _ | exact rwhen_spec (.mk _ _ _ _ _) _ | exact change_spec (.mk _ _ _ _ _) _ _ _ _ | exact rchange_spec (.mk _ _ _ _ _) _ _ _ _)
       case hg => ((simp [SV.noG, SV.noGL, Cell.noG]) <;> (repeat' apply And.intro) <;> exact Ints_noG _)
       case' hk => simp only [bkc, go_sem, Nat.reduceEqDiff, Nat.reduceAdd, Nat.reduceSub, Nat.reduceMul, Nat.reduceLT, Nat.reduceLeDiff, ↓reduceIte, reduceCtorEq, List.reduceReplicate, Int.cast_ofNat_Int, SV.ren, SV.renL, Cell.ren, Row.ren, renO, bk, back, outUpsFrom, Ints_ren])
    | (apply cl_use
       case hr => (simp only [List.map_cons, List.map_nil, hpL', lookR, Nat.reduceEqDiff, if_true, if_false]; first | exact map0 | exact map1 _ | exact map2 _ _ | exact map3 _ _ _)
       case ha => (simp only [List.map_cons, List.map_nil, prepV, prepC, idx, hpL', lookR, Nat.reduceEqDiff, if_true, if_false]; rfl)
       case hs => (simp only [snaps, SV.refs, Cell.refs, idx, List.flatMap_cons, List.flatMap_nil, List.nil_append, List.cons_append, List.append_nil, List.filter_cons, List.filter_nil, Nat.reduceEqDiff, if_true, if_false, Option.isNone_none, Option.isNone_some, Bool.false_eq_true, reduceCtorEq, ↓reduceIte]; rfl)
       case hn => decide
       case h => (first | exact new_spec .. | exact rnew_spec .. | exact adv_spec (.mk _ _ _ _ _) _ | exact radv_spec (.mk _ _ _ _ _) _ | exact valid_spec (.mk _ _ _ _ _) | exact rvalid_spec (.mk _ _ _ _ _) | exact tok_spec (.mk _ _ _ _ _) | exact rtok_spec (.mk _ _ _ _ _) | exact take_spec (.mk _ _ _ _ _) _ _ | exact rtake_spec (.mk _ _ _ _ _) _ _ | exact when_spec (.mk _ _ _ _ _) _ | exact rwhen_spec (.mk _ _ _ _ _) _ | exact change_spec (.mk _ _ _ _ _) _ _ _ _ | exact rchange_spec (.mk _ _ _ _ _) _ _ _ _)
       case hf => (simp only [List.forall_mem_cons, List.not_mem_nil, false_implies, implies_true, and_true, true_and, flat_cons, flat_nil, flat_ints, flat_app, Cell.refs, and_self, eq_self_iff_true, List.append_nil])
       case hg => ((simp [hpL', lookR, Cell.isG]) <;> (repeat' apply And.intro) <;> exact Ints_isG _)
       case hl => (simp only [List.length_cons, List.length_nil]; decide)
       case' hk => simp only [bkc, go_sem, Nat.reduceEqDiff, Nat.reduceAdd, Nat.reduceSub, Nat.reduceMul, Nat.reduceLT, Nat.reduceLeDiff, ↓reduceIte, reduceCtorEq, List.reduceReplicate, Int.cast_ofNat_Int, SV.ren, SV.renL, Cell.ren, Row.ren, renO, bk, back, outUpsFrom, Ints_ren])
    | (apply fs_nil <;> (try simp only [go_sem, resV, resS, SV.ren, SV.renL, Cell.ren, St.tmF, St.hpF, idx, renO, Row.ren, evS, slot, lookR, Nat.reduceEqDiff, ↓reduceIte, reduceCtorEq, if_true, if_false, Option.getD_some, Option.getD_none, List.map_cons, List.map_nil, sLoad, readAt, readNeed, Ints_ren, Ints_length, Ints_getD, and_true, true_and, List.getD_cons_zero, List.getD_cons_succ]) <;> (try rfl)))
theorem exa_spec (l : List Int) (b : Bk) (rate per burst now n : Int) (hr : ∀ x ∈ l, -9223372036854775808 ≤ x ∧ x ≤ 9223372036854775807) : FnSpec Try.prog 3 [gi l none, bkt b, i1 rate, i1 per, i1 burst, i1 now, i1 n] [] (b1 true) [] := by
  by_cases hlen : (l.length : Int) ≤ 600
  case neg =>
    refine fnspec_of mixed TT_ok TT_cl ⟨fun _ => false, fun _ => [], 0, fun _ => false, fun _ => false⟩ Try.func3 rfl (by kernel_rfl) rfl 92 rfl [.tmp 14] rfl ?_
    simp only [go_sem, Nat.reduceEqDiff, Nat.reduceAdd, Nat.reduceSub, Nat.reduceMul, Nat.reduceLT, Nat.reduceLeDiff, ↓reduceIte, reduceCtorEq, List.reduceReplicate, Int.cast_ofNat_Int]
    repeat' (first
    | with_reducible refine And.intro ?_ ?_
    | (unfold OKC; kernel_rfl)
    | (apply okc_up <;> (first | ((repeat (first | exact Sub.nil | apply Sub.gfp | apply Sub.same)); done) | kernel_rfl))
    | (unfold EDG; kernel_rfl)
    | (intros; (try simp only [Bool.and_eq_true, Bool.or_eq_true, Bool.not_eq_true', Bool.not_eq_false', Bool.and_eq_false_iff, Bool.or_eq_false_iff, decide_eq_true_eq, decide_eq_false_iff_not] at *); omega)
    | (refine cd_if (fun h => ?_) (fun h => ?_) <;> (first | (simp only [h, decide_eq_false hlen, go_sem, Nat.reduceEqDiff, Nat.reduceAdd, Nat.reduceSub, Nat.reduceMul, Nat.reduceLT, Nat.reduceLeDiff, ↓reduceIte, reduceCtorEq, List.reduceReplicate, Int.cast_ofNat_Int]; done) | simp only [h, decide_eq_false hlen, go_sem, Nat.reduceEqDiff, Nat.reduceAdd, Nat.reduceSub, Nat.reduceMul, Nat.reduceLT, Nat.reduceLeDiff, ↓reduceIte, reduceCtorEq, List.reduceReplicate, Int.cast_ofNat_Int] | skip))
    | (apply cg_tp
       case hl => rfl
       case ha => (simp only [List.map_cons, List.map_nil, prepV, prepC, idx, hpL', lookR, Nat.reduceEqDiff, if_true, if_false]; rfl)
       case hs => rfl
       case h => (first | exact light_spec .. | exact bsane_spec ..)
       case' hk => simp only [decide_eq_false hlen, go_sem, Nat.reduceEqDiff, Nat.reduceAdd, Nat.reduceSub, Nat.reduceMul, Nat.reduceLT, Nat.reduceLeDiff, ↓reduceIte, reduceCtorEq, List.reduceReplicate, Int.cast_ofNat_Int, SV.ren, SV.renL, Cell.ren])
    | (apply cg_ts
       case hl => rfl
       case ha => (simp only [List.map_cons, List.map_nil, prepV, prepC, idx, hpL', lookR, Nat.reduceEqDiff, if_true, if_false]; rfl)
       case hs => (simp only [snaps_nil, List.flatMap_cons, List.flatMap_nil, SV.refs, Cell.refs, List.nil_append, List.cons_append, List.append_nil]; rfl)
       case h => (first | exact light_spec .. | exact bsane_spec ..)
       case hf => ((simp only [List.forall_mem_cons, List.not_mem_nil, false_implies, implies_true, and_true, hpL', lookR, Nat.reduceEqDiff, if_true, if_false]) <;> (repeat' apply And.intro) <;> exact ⟨_, rfl, Ints_isG _⟩)
       case hg => simp [SV.noG, SV.noGL, Cell.noG]
       case' hk => simp only [decide_eq_false hlen, go_sem, Nat.reduceEqDiff, Nat.reduceAdd, Nat.reduceSub, Nat.reduceMul, Nat.reduceLT, Nat.reduceLeDiff, ↓reduceIte, reduceCtorEq, List.reduceReplicate, Int.cast_ofNat_Int, SV.ren, SV.renL, Cell.ren])
    | (apply cg_any
       case hl => rfl
       case ha => (intro hb; simp only [List.map_cons, List.map_nil, cnd, hb, if_true, prepV, prepC, idx, hpL', lookR, Nat.reduceEqDiff, if_false]; rfl)
       case hs => (intro hb; simp only [cnd, hb, if_true]; rfl)
       case h => (first | exact light_spec .. | exact bsane_spec ..)
       case' hk => simp only [decide_eq_false hlen, go_sem, Nat.reduceEqDiff, Nat.reduceAdd, Nat.reduceSub, Nat.reduceMul, Nat.reduceLT, Nat.reduceLeDiff, ↓reduceIte, reduceCtorEq, List.reduceReplicate, Int.cast_ofNat_Int, SV.ren, SV.renL, Cell.ren])
    | (apply cg_show
       case hl => rfl
       case ha => (intro hb; simp only [List.map_cons, List.map_nil, cnd, hb, if_true, prepV, prepC, idx, hpL', lookR, Nat.reduceEqDiff, if_false]; rfl)
       case hs => (intro hb; simp only [cnd, hb, if_true, snaps_nil, List.flatMap_cons, List.flatMap_nil, SV.refs, Cell.refs, List.nil_append, List.cons_append, List.append_nil]; rfl)
       case h => (first | exact light_spec .. | exact bsane_spec ..)
       case hf => ((simp only [List.forall_mem_cons, List.not_mem_nil, false_implies, implies_true, and_true, hpL', lookR, Nat.reduceEqDiff, if_true, if_false]) <;> (repeat' apply And.intro) <;> exact ⟨_, rfl, Ints_isG _⟩)
       case hg => simp [SV.noG, SV.noGL, Cell.noG]
       case' hk => simp only [decide_eq_false hlen, go_sem, Nat.reduceEqDiff, Nat.reduceAdd, Nat.reduceSub, Nat.reduceMul, Nat.reduceLT, Nat.reduceLeDiff, ↓reduceIte, reduceCtorEq, List.reduceReplicate, Int.cast_ofNat_Int, SV.ren, SV.renL, Cell.ren])
    | (apply cl_plain
       case hs => rfl
       case ha => (simp only [List.map_cons, List.map_nil, prepV, prepC, idx, hpL', lookR, Nat.reduceEqDiff, if_true, if_false]; rfl)
       case h => (first | exact light_spec .. | exact bsane_spec ..)
       case' hk => simp only [decide_eq_false hlen, go_sem, Nat.reduceEqDiff, Nat.reduceAdd, Nat.reduceSub, Nat.reduceMul, Nat.reduceLT, Nat.reduceLeDiff, ↓reduceIte, reduceCtorEq, List.reduceReplicate, Int.cast_ofNat_Int, SV.ren, SV.renL, Cell.ren, Row.ren, renO, bk, back, outUpsFrom, Ints_ren])
    | (apply cl_lend
       case hr => (simp only [List.map_cons, List.map_nil, hpL', lookR, Nat.reduceEqDiff, if_true, if_false]; first | exact map1 _ | exact map2 _ _ | exact map3 _ _ _)
       case ha => (simp only [List.map_cons, List.map_nil, prepV, prepC, idx, hpL', lookR, Nat.reduceEqDiff, if_true, if_false]; rfl)
       case hs => rfl
       case hn => decide
       case h => (first | exact light_spec .. | exact bsane_spec ..)
       case hf => (simp only [List.forall_mem_cons, List.not_mem_nil, false_implies, implies_true, and_true, true_and, flat_cons, flat_nil, flat_ints, flat_app, Cell.refs, and_self, eq_self_iff_true, List.append_nil])
       case hl => (simp only [List.length_cons, List.length_nil]; decide)
       case' hk => simp only [decide_eq_false hlen, go_sem, Nat.reduceEqDiff, Nat.reduceAdd, Nat.reduceSub, Nat.reduceMul, Nat.reduceLT, Nat.reduceLeDiff, ↓reduceIte, reduceCtorEq, List.reduceReplicate, Int.cast_ofNat_Int, SV.ren, SV.renL, Cell.ren, Row.ren, renO, bk, back, outUpsFrom, Ints_ren])
    | (apply cl_show
       case ha => (simp only [List.map_cons, List.map_nil, prepV, prepC, idx, hpL', lookR, Nat.reduceEqDiff, if_true, if_false]; rfl)
       case hs => ((simp [snaps, SV.refs, Cell.refs, idx, hpL', lookR]) <;> (repeat' apply And.intro) <;> exact Ints_isG _)
       case h => (first | exact light_spec .. | exact bsane_spec ..)
       case hg => ((simp [SV.noG, SV.noGL, Cell.noG]) <;> (repeat' apply And.intro) <;> exact Ints_noG _)
       case' hk => simp only [decide_eq_false hlen, go_sem, Nat.reduceEqDiff, Nat.reduceAdd, Nat.reduceSub, Nat.reduceMul, Nat.reduceLT, Nat.reduceLeDiff, ↓reduceIte, reduceCtorEq, List.reduceReplicate, Int.cast_ofNat_Int, SV.ren, SV.renL, Cell.ren, Row.ren, renO, bk, back, outUpsFrom, Ints_ren])
    | (apply cl_use
       case hr => (simp only [List.map_cons, List.map_nil, hpL', lookR, Nat.reduceEqDiff, if_true, if_false]; first | exact map0 | exact map1 _ | exact map2 _ _ | exact map3 _ _ _)
       case ha => (simp only [List.map_cons, List.map_nil, prepV, prepC, idx, hpL', lookR, Nat.reduceEqDiff, if_true, if_false]; rfl)
       case hs => (simp only [snaps, SV.refs, Cell.refs, idx, List.flatMap_cons, List.flatMap_nil, List.nil_append, List.cons_append, List.append_nil, List.filter_cons, List.filter_nil, Nat.reduceEqDiff, if_true, if_false, Option.isNone_none, Option.isNone_some, Bool.false_eq_true, reduceCtorEq, ↓reduceIte]; rfl)
       case hn => decide
       case h => (first | exact light_spec .. | exact bsane_spec ..)
       case hf => (simp only [List.forall_mem_cons, List.not_mem_nil, false_implies, implies_true, and_true, true_and, flat_cons, flat_nil, flat_ints, flat_app, Cell.refs, and_self, eq_self_iff_true, List.append_nil])
       case hg => ((simp [hpL', lookR, Cell.isG]) <;> (repeat' apply And.intro) <;> exact Ints_isG _)
       case hl => (simp only [List.length_cons, List.length_nil]; decide)
       case' hk => simp only [decide_eq_false hlen, go_sem, Nat.reduceEqDiff, Nat.reduceAdd, Nat.reduceSub, Nat.reduceMul, Nat.reduceLT, Nat.reduceLeDiff, ↓reduceIte, reduceCtorEq, List.reduceReplicate, Int.cast_ofNat_Int, SV.ren, SV.renL, Cell.ren, Row.ren, renO, bk, back, outUpsFrom, Ints_ren])
    | (apply fs_nil <;> (try simp only [go_sem, resV, resS, SV.ren, SV.renL, Cell.ren, St.tmF, St.hpF, idx, renO, Row.ren, evS, slot, lookR, Nat.reduceEqDiff, ↓reduceIte, reduceCtorEq, if_true, if_false, Option.getD_some, Option.getD_none, List.map_cons, List.map_nil, sLoad, readAt, readNeed, Ints_ren, Ints_length, Ints_getD, and_true, true_and, List.getD_cons_zero, List.getD_cons_succ]) <;> (try rfl)))
  have hl : l.length ≤ 600 := by omega
  obtain ⟨r, p, s, lv, t⟩ := b
  refine fnspec_of mixed TT_ok TT_cl ⟨fun _ => false, fun f => if f = 11 then [0] else if f = 12 then [0] else [], 0, fun _ => false, fun _ => false⟩ Try.func3 rfl (by kernel_rfl) rfl 92 rfl [.tmp 14] rfl ?_
  simp only [go_sem, Nat.reduceEqDiff, Nat.reduceAdd, Nat.reduceSub, Nat.reduceMul, Nat.reduceLT, Nat.reduceLeDiff, ↓reduceIte, reduceCtorEq, List.reduceReplicate, Int.cast_ofNat_Int, bkc]
  repeat' (first
    | with_reducible refine And.intro ?_ ?_
    | (unfold OKC; kernel_rfl)
    | (apply okc_up <;> (first | ((repeat (first | exact Sub.nil | apply Sub.gfp | apply Sub.same)); done) | kernel_rfl))
    | (unfold EDG; kernel_rfl)
    | (intros; (try simp only [Bool.and_eq_true, Bool.or_eq_true, Bool.not_eq_true', Bool.not_eq_false', Bool.and_eq_false_iff, Bool.or_eq_false_iff, decide_eq_true_eq, decide_eq_false_iff_not] at *); omega)
    | (refine cd_if (fun h => ?_) (fun h => ?_) <;> (first | (simp only [h, decide_eq_true hlen, bkc, go_sem, Nat.reduceEqDiff, Nat.reduceAdd, Nat.reduceSub, Nat.reduceMul, Nat.reduceLT, Nat.reduceLeDiff, ↓reduceIte, reduceCtorEq, List.reduceReplicate, Int.cast_ofNat_Int]; done) | simp only [h, decide_eq_true hlen, bkc, go_sem, Nat.reduceEqDiff, Nat.reduceAdd, Nat.reduceSub, Nat.reduceMul, Nat.reduceLT, Nat.reduceLeDiff, ↓reduceIte, reduceCtorEq, List.reduceReplicate, Int.cast_ofNat_Int] | skip))
    | (apply cg_tp
       case hl => rfl
       case ha => (simp only [List.map_cons, List.map_nil, prepV, prepC, idx, hpL', lookR, Nat.reduceEqDiff, if_true, if_false]; rfl)
       case hs => rfl
       case h => (first | exact light_spec .. | exact bsane_spec .. | exact roll_spec .. | exact exact_spec (.mk _ _ _ _ _) _ _ _ _ _)
       case' hk => simp only [decide_eq_true hlen, bkc, go_sem, Nat.reduceEqDiff, Nat.reduceAdd, Nat.reduceSub, Nat.reduceMul, Nat.reduceLT, Nat.reduceLeDiff, ↓reduceIte, reduceCtorEq, List.reduceReplicate, Int.cast_ofNat_Int, SV.ren, SV.renL, Cell.ren])
    | (apply cg_ts
       case hl => rfl
       case ha => (simp only [List.map_cons, List.map_nil, prepV, prepC, idx, hpL', lookR, Nat.reduceEqDiff, if_true, if_false]; rfl)
       case hs => (simp only [snaps_nil, List.flatMap_cons, List.flatMap_nil, SV.refs, Cell.refs, List.nil_append, List.cons_append, List.append_nil]; rfl)
       case h => (first | exact light_spec .. | exact bsane_spec .. | exact roll_spec .. | exact exact_spec (.mk _ _ _ _ _) _ _ _ _ _)
       case hf => ((simp only [List.forall_mem_cons, List.not_mem_nil, false_implies, implies_true, and_true, hpL', lookR, Nat.reduceEqDiff, if_true, if_false]) <;> (repeat' apply And.intro) <;> exact ⟨_, rfl, Ints_isG _⟩)
       case hg => simp [SV.noG, SV.noGL, Cell.noG]
       case' hk => simp only [decide_eq_true hlen, bkc, go_sem, Nat.reduceEqDiff, Nat.reduceAdd, Nat.reduceSub, Nat.reduceMul, Nat.reduceLT, Nat.reduceLeDiff, ↓reduceIte, reduceCtorEq, List.reduceReplicate, Int.cast_ofNat_Int, SV.ren, SV.renL, Cell.ren])
    | (apply cg_any
       case hl => rfl
       case ha => (intro hb; simp only [List.map_cons, List.map_nil, cnd, hb, if_true, prepV, prepC, idx, hpL', lookR, Nat.reduceEqDiff, if_false]; rfl)
       case hs => (intro hb; simp only [cnd, hb, if_true]; rfl)
       case h => (first | exact light_spec .. | exact bsane_spec .. | exact roll_spec .. | exact exact_spec (.mk _ _ _ _ _) _ _ _ _ _)
       case' hk => simp only [decide_eq_true hlen, bkc, go_sem, Nat.reduceEqDiff, Nat.reduceAdd, Nat.reduceSub, Nat.reduceMul, Nat.reduceLT, Nat.reduceLeDiff, ↓reduceIte, reduceCtorEq, List.reduceReplicate, Int.cast_ofNat_Int, SV.ren, SV.renL, Cell.ren])
    | (apply cg_show
       case hl => rfl
       case ha => (intro hb; simp only [List.map_cons, List.map_nil, cnd, hb, if_true, prepV, prepC, idx, hpL', lookR, Nat.reduceEqDiff, if_false]; rfl)
       case hs => (intro hb; simp only [cnd, hb, if_true, snaps_nil, List.flatMap_cons, List.flatMap_nil, SV.refs, Cell.refs, List.nil_append, List.cons_append, List.append_nil]; rfl)
       case h => (first | exact light_spec .. | exact bsane_spec .. | exact roll_spec .. | exact exact_spec (.mk _ _ _ _ _) _ _ _ _ _)
       case hf => ((simp only [List.forall_mem_cons, List.not_mem_nil, false_implies, implies_true, and_true, hpL', lookR, Nat.reduceEqDiff, if_true, if_false]) <;> (repeat' apply And.intro) <;> exact ⟨_, rfl, Ints_isG _⟩)
       case hg => simp [SV.noG, SV.noGL, Cell.noG]
       case' hk => simp only [decide_eq_true hlen, bkc, go_sem, Nat.reduceEqDiff, Nat.reduceAdd, Nat.reduceSub, Nat.reduceMul, Nat.reduceLT, Nat.reduceLeDiff, ↓reduceIte, reduceCtorEq, List.reduceReplicate, Int.cast_ofNat_Int, SV.ren, SV.renL, Cell.ren])
    | (apply cl_plain
       case hs => rfl
       case ha => (simp only [List.map_cons, List.map_nil, prepV, prepC, idx, hpL', lookR, Nat.reduceEqDiff, if_true, if_false]; rfl)
       case h => (first | exact light_spec .. | exact bsane_spec .. | exact roll_spec .. | exact exact_spec (.mk _ _ _ _ _) _ _ _ _ _)
       case' hk => simp only [decide_eq_true hlen, bkc, go_sem, Nat.reduceEqDiff, Nat.reduceAdd, Nat.reduceSub, Nat.reduceMul, Nat.reduceLT, Nat.reduceLeDiff, ↓reduceIte, reduceCtorEq, List.reduceReplicate, Int.cast_ofNat_Int, SV.ren, SV.renL, Cell.ren, Row.ren, renO, bk, back, outUpsFrom, Ints_ren])
    | (apply cl_lend
       case hr => (simp only [List.map_cons, List.map_nil, hpL', lookR, Nat.reduceEqDiff, if_true, if_false]; first | exact map1 _ | exact map2 _ _ | exact map3 _ _ _)
       case ha => (simp only [List.map_cons, List.map_nil, prepV, prepC, idx, hpL', lookR, Nat.reduceEqDiff, if_true, if_false]; rfl)
       case hs => rfl
       case hn => decide
       case h => (first | exact light_spec .. | exact bsane_spec .. | exact roll_spec .. | exact exact_spec (.mk _ _ _ _ _) _ _ _ _ _)
       case hf => (simp only [List.forall_mem_cons, List.not_mem_nil, false_implies, implies_true, and_true, true_and, flat_cons, flat_nil, flat_ints, flat_app, Cell.refs, and_self, eq_self_iff_true, List.append_nil])
       case hl => (simp only [List.length_cons, List.length_nil]; decide)
       case' hk => simp only [decide_eq_true hlen, bkc, go_sem, Nat.reduceEqDiff, Nat.reduceAdd, Nat.reduceSub, Nat.reduceMul, Nat.reduceLT, Nat.reduceLeDiff, ↓reduceIte, reduceCtorEq, List.reduceReplicate, Int.cast_ofNat_Int, SV.ren, SV.renL, Cell.ren, Row.ren, renO, bk, back, outUpsFrom, Ints_ren])
    | (apply cl_show
       case ha => (simp only [List.map_cons, List.map_nil, prepV, prepC, idx, hpL', lookR, Nat.reduceEqDiff, if_true, if_false]; rfl)
       case hs => ((simp [snaps, SV.refs, Cell.refs, idx, hpL', lookR]) <;> (repeat' apply And.intro) <;> exact Ints_isG _)
       case h => (first | exact light_spec .. | exact bsane_spec .. | exact roll_spec .. | exact exact_spec (.mk _ _ _ _ _) _ _ _ _ _)
       case hg => ((simp [SV.noG, SV.noGL, Cell.noG]) <;> (repeat' apply And.intro) <;> exact Ints_noG _)
       case' hk => simp only [decide_eq_true hlen, bkc, go_sem, Nat.reduceEqDiff, Nat.reduceAdd, Nat.reduceSub, Nat.reduceMul, Nat.reduceLT, Nat.reduceLeDiff, ↓reduceIte, reduceCtorEq, List.reduceReplicate, Int.cast_ofNat_Int, SV.ren, SV.renL, Cell.ren, Row.ren, renO, bk, back, outUpsFrom, Ints_ren])
    | (apply cl_use
       case hr => (simp only [List.map_cons, List.map_nil, hpL', lookR, Nat.reduceEqDiff, if_true, if_false]; first | exact map0 | exact map1 _ | exact map2 _ _ | exact map3 _ _ _)
       case ha => (simp only [List.map_cons, List.map_nil, prepV, prepC, idx, hpL', lookR, Nat.reduceEqDiff, if_true, if_false]; rfl)
       case hs => (simp only [snaps, SV.refs, Cell.refs, idx, List.flatMap_cons, List.flatMap_nil, List.nil_append, List.cons_append, List.append_nil, List.filter_cons, List.filter_nil, Nat.reduceEqDiff, if_true, if_false, Option.isNone_none, Option.isNone_some, Bool.false_eq_true, reduceCtorEq, ↓reduceIte]; rfl)
       case hn => decide
       case h => (first | exact light_spec .. | exact bsane_spec .. | exact roll_spec .. | exact exact_spec (.mk _ _ _ _ _) _ _ _ _ _)
       case hf => (simp only [List.forall_mem_cons, List.not_mem_nil, false_implies, implies_true, and_true, true_and, flat_cons, flat_nil, flat_ints, flat_app, Cell.refs, and_self, eq_self_iff_true, List.append_nil])
       case hg => ((simp [hpL', lookR, Cell.isG]) <;> (repeat' apply And.intro) <;> exact Ints_isG _)
       case hl => (simp only [List.length_cons, List.length_nil]; decide)
       case' hk => simp only [decide_eq_true hlen, bkc, go_sem, Nat.reduceEqDiff, Nat.reduceAdd, Nat.reduceSub, Nat.reduceMul, Nat.reduceLT, Nat.reduceLeDiff, ↓reduceIte, reduceCtorEq, List.reduceReplicate, Int.cast_ofNat_Int, SV.ren, SV.renL, Cell.ren, Row.ren, renO, bk, back, outUpsFrom, Ints_ren])
    | (apply fs_nil <;> (try simp only [go_sem, resV, resS, SV.ren, SV.renL, Cell.ren, St.tmF, St.hpF, idx, renO, Row.ren, evS, slot, lookR, Nat.reduceEqDiff, ↓reduceIte, reduceCtorEq, if_true, if_false, Option.getD_some, Option.getD_none, List.map_cons, List.map_nil, sLoad, readAt, readNeed, Ints_ren, Ints_length, Ints_getD, and_true, true_and, List.getD_cons_zero, List.getD_cons_succ]) <;> (try rfl)))
  refine w_loop (ι := Nat × Nat) (fun x => ⟨[(16, i1 x.1), (15, .one (.optr 1 0)), (8, .one (.optr 0 0)), (2, i1 rate), (3, i1 per), (4, i1 burst), (5, i1 now), (6, i1 n)], [(0, some ⟨[int r, int p, int s, int lv, int t], 5⟩), (1, some (dice l x.2))], 2⟩) (fun x => x.1 ≤ 4) (fun x => 4 - x.1) (0, 0) ?_ (Nat.zero_le _) ?_
  · (refine imp_ren _ _ _ [(0, 0, ⟨[int r, int p, int s, int lv, int t], 5⟩), (1, 6, dice l 0)] (by simp) (by simp) (by simp) (Nat.le_of_ble_eq_true rfl) ?_ rfl (by simp only [List.forall_mem_cons, List.not_mem_nil, false_implies, implies_true, and_true, St.hpF, lookR, Nat.reduceEqDiff, if_true, if_false, ↓reduceIte] <;> (repeat' apply And.intro) <;> (first | rfl | trivial)) (by simp only [List.forall_mem_cons, List.not_mem_nil, false_implies, implies_true, and_true, true_and, flat_cons, flat_nil, flat_ints, flat_app, Cell.refs, and_self, eq_self_iff_true, List.append_nil]); simp only [List.map_cons, List.map_nil, List.forall_mem_cons, List.not_mem_nil, false_implies, implies_true, and_true, lk, slot, SV.ren, Cell.ren, toN, Nat.reduceEqDiff, if_true, if_false, ↓reduceIte, reduceCtorEq])
    (repeat' apply And.intro) <;> (first | rfl | trivial)
  rintro ⟨j, k⟩ hj
  simp only at hj ⊢
  have hv := mkB_ok l k
  have hvi := bv_iff hv
  generalize hB : (mkB l k).1 = B at *
  obtain ⟨r', p', s', l', t'⟩ := B
  simp only at hvi
  simp only [go_sem, Nat.reduceEqDiff, Nat.reduceAdd, Nat.reduceSub, Nat.reduceMul, Nat.reduceLT, Nat.reduceLeDiff, ↓reduceIte, reduceCtorEq, List.reduceReplicate, Int.cast_ofNat_Int]
  repeat' (first
    | with_reducible refine And.intro ?_ ?_
    | (unfold OKC; kernel_rfl)
    | (apply okc_up <;> (first | ((repeat (first | exact Sub.nil | apply Sub.gfp | apply Sub.same)); done) | kernel_rfl))
    | (unfold EDG; kernel_rfl)
    | (intros; (try simp only [Bool.and_eq_true, Bool.or_eq_true, Bool.not_eq_true', Bool.not_eq_false', Bool.and_eq_false_iff, Bool.or_eq_false_iff, decide_eq_true_eq, decide_eq_false_iff_not] at *); omega)
    | (refine cd_if (fun h => ?_) (fun h => ?_) <;> (first | (simp only [h, hB, bkc, go_sem, Nat.reduceEqDiff, Nat.reduceAdd, Nat.reduceSub, Nat.reduceMul, Nat.reduceLT, Nat.reduceLeDiff, ↓reduceIte, reduceCtorEq, List.reduceReplicate, Int.cast_ofNat_Int]; done) | simp only [h, hB, bkc, go_sem, Nat.reduceEqDiff, Nat.reduceAdd, Nat.reduceSub, Nat.reduceMul, Nat.reduceLT, Nat.reduceLeDiff, ↓reduceIte, reduceCtorEq, List.reduceReplicate, Int.cast_ofNat_Int] | skip))
    | (apply cg_tp
       case hl => rfl
       case ha => (simp only [List.map_cons, List.map_nil, prepV, prepC, idx, hpL', lookR, Nat.reduceEqDiff, if_true, if_false]; rfl)
       case hs => rfl
       case h => (first | exact bsane_spec .. | exact mkb_spec _ _ hl hr | exact pick_spec _ _ _ _ (Nat.le_of_ble_eq_true rfl) (Nat.le_of_ble_eq_true rfl) hl hr | exact exact_spec (.mk _ _ _ _ _) _ _ _ _ _)
       case' hk => simp only [hB, bkc, go_sem, Nat.reduceEqDiff, Nat.reduceAdd, Nat.reduceSub, Nat.reduceMul, Nat.reduceLT, Nat.reduceLeDiff, ↓reduceIte, reduceCtorEq, List.reduceReplicate, Int.cast_ofNat_Int, SV.ren, SV.renL, Cell.ren])
    | (apply cg_ts
       case hl => rfl
       case ha => (simp only [List.map_cons, List.map_nil, prepV, prepC, idx, hpL', lookR, Nat.reduceEqDiff, if_true, if_false]; rfl)
       case hs => (simp only [snaps_nil, List.flatMap_cons, List.flatMap_nil, SV.refs, Cell.refs, List.nil_append, List.cons_append, List.append_nil]; rfl)
       case h => (first | exact bsane_spec .. | exact mkb_spec _ _ hl hr | exact pick_spec _ _ _ _ (Nat.le_of_ble_eq_true rfl) (Nat.le_of_ble_eq_true rfl) hl hr | exact exact_spec (.mk _ _ _ _ _) _ _ _ _ _)
       case hf => ((simp only [List.forall_mem_cons, List.not_mem_nil, false_implies, implies_true, and_true, hpL', lookR, Nat.reduceEqDiff, if_true, if_false]) <;> (repeat' apply And.intro) <;> exact ⟨_, rfl, Ints_isG _⟩)
       case hg => simp [SV.noG, SV.noGL, Cell.noG]
       case' hk => simp only [hB, bkc, go_sem, Nat.reduceEqDiff, Nat.reduceAdd, Nat.reduceSub, Nat.reduceMul, Nat.reduceLT, Nat.reduceLeDiff, ↓reduceIte, reduceCtorEq, List.reduceReplicate, Int.cast_ofNat_Int, SV.ren, SV.renL, Cell.ren])
    | (apply cg_any
       case hl => rfl
       case ha => (intro hb; simp only [List.map_cons, List.map_nil, cnd, hb, if_true, prepV, prepC, idx, hpL', lookR, Nat.reduceEqDiff, if_false]; rfl)
       case hs => (intro hb; simp only [cnd, hb, if_true]; rfl)
       case h => (first | exact bsane_spec .. | exact mkb_spec _ _ hl hr | exact pick_spec _ _ _ _ (Nat.le_of_ble_eq_true rfl) (Nat.le_of_ble_eq_true rfl) hl hr | exact exact_spec (.mk _ _ _ _ _) _ _ _ _ _)
       case' hk => simp only [hB, bkc, go_sem, Nat.reduceEqDiff, Nat.reduceAdd, Nat.reduceSub, Nat.reduceMul, Nat.reduceLT, Nat.reduceLeDiff, ↓reduceIte, reduceCtorEq, List.reduceReplicate, Int.cast_ofNat_Int, SV.ren, SV.renL, Cell.ren])
    | (apply cg_show
       case hl => rfl
       case ha => (intro hb; simp only [List.map_cons, List.map_nil, cnd, hb, if_true, prepV, prepC, idx, hpL', lookR, Nat.reduceEqDiff, if_false]; rfl)
       case hs => (intro hb; simp only [cnd, hb, if_true, snaps_nil, List.flatMap_cons, List.flatMap_nil, SV.refs, Cell.refs, List.nil_append, List.cons_append, List.append_nil]; rfl)
       case h => (first | exact bsane_spec .. | exact mkb_spec _ _ hl hr | exact pick_spec _ _ _ _ (Nat.le_of_ble_eq_true rfl) (Nat.le_of_ble_eq_true rfl) hl hr | exact exact_spec (.mk _ _ _ _ _) _ _ _ _ _)
       case hf => ((simp only [List.forall_mem_cons, List.not_mem_nil, false_implies, implies_true, and_true, hpL', lookR, Nat.reduceEqDiff, if_true, if_false]) <;> (repeat' apply And.intro) <;> exact ⟨_, rfl, Ints_isG _⟩)
       case hg => simp [SV.noG, SV.noGL, Cell.noG]
       case' hk => simp only [hB, bkc, go_sem, Nat.reduceEqDiff, Nat.reduceAdd, Nat.reduceSub, Nat.reduceMul, Nat.reduceLT, Nat.reduceLeDiff, ↓reduceIte, reduceCtorEq, List.reduceReplicate, Int.cast_ofNat_Int, SV.ren, SV.renL, Cell.ren])
    | (apply cl_plain
       case hs => rfl
       case ha => (simp only [List.map_cons, List.map_nil, prepV, prepC, idx, hpL', lookR, Nat.reduceEqDiff, if_true, if_false]; rfl)
       case h => (first | exact bsane_spec .. | exact mkb_spec _ _ hl hr | exact pick_spec _ _ _ _ (Nat.le_of_ble_eq_true rfl) (Nat.le_of_ble_eq_true rfl) hl hr | exact exact_spec (.mk _ _ _ _ _) _ _ _ _ _)
       case' hk => simp only [hB, bkc, go_sem, Nat.reduceEqDiff, Nat.reduceAdd, Nat.reduceSub, Nat.reduceMul, Nat.reduceLT, Nat.reduceLeDiff, ↓reduceIte, reduceCtorEq, List.reduceReplicate, Int.cast_ofNat_Int, SV.ren, SV.renL, Cell.ren, Row.ren, renO, bk, back, outUpsFrom, Ints_ren])
    | (apply cl_lend
       case hr => (simp only [List.map_cons, List.map_nil, hpL', lookR, Nat.reduceEqDiff, if_true, if_false]; first | exact map1 _ | exact map2 _ _ | exact map3 _ _ _)
       case ha => (simp only [List.map_cons, List.map_nil, prepV, prepC, idx, hpL', lookR, Nat.reduceEqDiff, if_true, if_false]; rfl)
       case hs => rfl
       case hn => decide
       case h => (first | exact bsane_spec .. | exact mkb_spec _ _ hl hr | exact pick_spec _ _ _ _ (Nat.le_of_ble_eq_true rfl) (Nat.le_of_ble_eq_true rfl) hl hr | exact exact_spec (.mk _ _ _ _ _) _ _ _ _ _)
       case hf => (simp only [List.forall_mem_cons, List.not_mem_nil, false_implies, implies_true, and_true, true_and, flat_cons, flat_nil, flat_ints, flat_app, Cell.refs, and_self, eq_self_iff_true, List.append_nil])
       case hl => (simp only [List.length_cons, List.length_nil]; decide)
       case' hk => simp only [hB, bkc, go_sem, Nat.reduceEqDiff, Nat.reduceAdd, Nat.reduceSub, Nat.reduceMul, Nat.reduceLT, Nat.reduceLeDiff, ↓reduceIte, reduceCtorEq, List.reduceReplicate, Int.cast_ofNat_Int, SV.ren, SV.renL, Cell.ren, Row.ren, renO, bk, back, outUpsFrom, Ints_ren])
    | (apply cl_show
       case ha => (simp only [List.map_cons, List.map_nil, prepV, prepC, idx, hpL', lookR, Nat.reduceEqDiff, if_true, if_false]; rfl)
       case hs => ((simp [snaps, SV.refs, Cell.refs, idx, hpL', lookR]) <;> (repeat' apply And.intro) <;> exact Ints_isG _)
       case h => (first | exact bsane_spec .. | exact mkb_spec _ _ hl hr | exact pick_spec _ _ _ _ (Nat.le_of_ble_eq_true rfl) (Nat.le_of_ble_eq_true rfl) hl hr | exact exact_spec (.mk _ _ _ _ _) _ _ _ _ _)
       case hg => ((simp [SV.noG, SV.noGL, Cell.noG]) <;> (repeat' apply And.intro) <;> exact Ints_noG _)
       case' hk => simp only [hB, bkc, go_sem, Nat.reduceEqDiff, Nat.reduceAdd, Nat.reduceSub, Nat.reduceMul, Nat.reduceLT, Nat.reduceLeDiff, ↓reduceIte, reduceCtorEq, List.reduceReplicate, Int.cast_ofNat_Int, SV.ren, SV.renL, Cell.ren, Row.ren, renO, bk, back, outUpsFrom, Ints_ren])
    | (apply cl_use
       case hr => (simp only [List.map_cons, List.map_nil, hpL', lookR, Nat.reduceEqDiff, if_true, if_false]; first | exact map0 | exact map1 _ | exact map2 _ _ | exact map3 _ _ _)
       case ha => (simp only [List.map_cons, List.map_nil, prepV, prepC, idx, hpL', lookR, Nat.reduceEqDiff, if_true, if_false]; rfl)
       case hs => (simp only [snaps, SV.refs, Cell.refs, idx, List.flatMap_cons, List.flatMap_nil, List.nil_append, List.cons_append, List.append_nil, List.filter_cons, List.filter_nil, Nat.reduceEqDiff, if_true, if_false, Option.isNone_none, Option.isNone_some, Bool.false_eq_true, reduceCtorEq, ↓reduceIte]; rfl)
       case hn => decide
       case h => (first | exact bsane_spec .. | exact mkb_spec _ _ hl hr | exact pick_spec _ _ _ _ (Nat.le_of_ble_eq_true rfl) (Nat.le_of_ble_eq_true rfl) hl hr | exact exact_spec (.mk _ _ _ _ _) _ _ _ _ _)
       case hf => (simp only [List.forall_mem_cons, List.not_mem_nil, false_implies, implies_true, and_true, true_and, flat_cons, flat_nil, flat_ints, flat_app, Cell.refs, and_self, eq_self_iff_true, List.append_nil])
       case hg => ((simp [hpL', lookR, Cell.isG]) <;> (repeat' apply And.intro) <;> exact Ints_isG _)
       case hl => (simp only [List.length_cons, List.length_nil]; decide)
       case' hk => simp only [hB, bkc, go_sem, Nat.reduceEqDiff, Nat.reduceAdd, Nat.reduceSub, Nat.reduceMul, Nat.reduceLT, Nat.reduceLeDiff, ↓reduceIte, reduceCtorEq, List.reduceReplicate, Int.cast_ofNat_Int, SV.ren, SV.renL, Cell.ren, Row.ren, renO, bk, back, outUpsFrom, Ints_ren])
    | (apply fs_nil <;> (try simp only [go_sem, resV, resS, SV.ren, SV.renL, Cell.ren, St.tmF, St.hpF, idx, renO, Row.ren, evS, slot, lookR, Nat.reduceEqDiff, ↓reduceIte, reduceCtorEq, if_true, if_false, Option.getD_some, Option.getD_none, List.map_cons, List.map_nil, sLoad, readAt, readNeed, Ints_ren, Ints_length, Ints_getD, and_true, true_and, List.getD_cons_zero, List.getD_cons_succ]) <;> (try rfl)))
  all_goals simp only [Bool.not_eq_true', Bool.not_eq_false', decide_eq_true_eq, decide_eq_false_iff_not, Bool.or_eq_true, Bool.or_eq_false_iff, Bool.and_eq_true] at *
  all_goals first
    | omega
    | (have hq := mul_rng (a := s') (b := if 100 < p' then 100 else p') (A := 1073741824) (B := 100) (by omega) (by omega) (by split <;> omega) (by split <;> omega)
       omega)
    | (have hp1 := fun k => pkV_rng l k [0, 1, 9, -1] (a := -1) (b := 9) (by simp) (by simp)
       have := hp1 (nxA l (nxA l (nxA l (mkB l k).2 6) 5) 5)
       omega)
    | (have hp1 := fun k => pkV_rng l k [0, 1, 9, -1] (a := -1) (b := 9) (by simp) (by simp)
       have hp2 := pkV_rng l (nxA l (mkB l k).2 3) [t', -1, 1048576, 1048577] (a := -1) (b := 1048577) (by simp) (by simp; omega)
       have := hp1 (nxA l (nxA l (nxA l (nxA l (nxA l (mkB l k).2 3) 4) 6) 5) 5)
       omega)
    | (have h3 : (j : Int) = 3 := by assumption
       refine le_mk (j + 1, nxA l (nxA l (nxA l (nxA l (nxA l (nxA l (nxA l (mkB l k).2 3) 4) 6) 5) 5) 4) 6) ?_ (by simp only; omega) (by simp only; omega)
       (refine imp_ren _ _ _ [(0, 0, ⟨[int r, int p, int s, int lv, int t], 5⟩), (1, 1, dice l (nxA l (nxA l (nxA l (nxA l (nxA l (nxA l (nxA l (mkB l k).2 3) 4) 6) 5) 5) 4) 6))] (by simp) (by simp) (by simp) (Nat.le_of_ble_eq_true rfl) ?_ rfl (by simp only [List.forall_mem_cons, List.not_mem_nil, false_implies, implies_true, and_true, St.hpF, lookR, Nat.reduceEqDiff, if_true, if_false, ↓reduceIte] <;> (repeat' apply And.intro) <;> (first | rfl | trivial)) (by simp only [List.forall_mem_cons, List.not_mem_nil, false_implies, implies_true, and_true, true_and, flat_cons, flat_nil, flat_ints, flat_app, Cell.refs, and_self, eq_self_iff_true, List.append_nil]); simp only [List.map_cons, List.map_nil, List.forall_mem_cons, List.not_mem_nil, false_implies, implies_true, and_true, lk, slot, SV.ren, Cell.ren, toN, Nat.reduceEqDiff, if_true, if_false, ↓reduceIte, reduceCtorEq])
       all_goals ((repeat' apply And.intro) <;> (first | rfl | trivial)))
    | (refine le_mk (j + 1, nxA l (nxA l (nxA l (nxA l (nxA l (mkB l k).2 6) 5) 5) 4) 6) ?_ (by simp only; omega) (by simp only; omega)
       (refine imp_ren _ _ _ [(0, 0, ⟨[int r, int p, int s, int lv, int t], 5⟩), (1, 1, dice l (nxA l (nxA l (nxA l (nxA l (nxA l (mkB l k).2 6) 5) 5) 4) 6))] (by simp) (by simp) (by simp) (Nat.le_of_ble_eq_true rfl) ?_ rfl (by simp only [List.forall_mem_cons, List.not_mem_nil, false_implies, implies_true, and_true, St.hpF, lookR, Nat.reduceEqDiff, if_true, if_false, ↓reduceIte] <;> (repeat' apply And.intro) <;> (first | rfl | trivial)) (by simp only [List.forall_mem_cons, List.not_mem_nil, false_implies, implies_true, and_true, true_and, flat_cons, flat_nil, flat_ints, flat_app, Cell.refs, and_self, eq_self_iff_true, List.append_nil]); simp only [List.map_cons, List.map_nil, List.forall_mem_cons, List.not_mem_nil, false_implies, implies_true, and_true, lk, slot, SV.ren, Cell.ren, toN, Nat.reduceEqDiff, if_true, if_false, ↓reduceIte, reduceCtorEq])
       all_goals ((repeat' apply And.intro) <;> (first | rfl | trivial)))
theorem bucket_of {g : List Cell} (h : GTy Try.prog 12 24 g) : ∃ b : Bk, g = bkc b := by
  have h := gty_struct (n := 11) Try.underlying24 h
  obtain ⟨a0, b0, rfl, h0, a1, b1, rfl, h1, a2, b2, rfl, h2, a3, b3, rfl, h3, a4, b4, rfl, h4, rfl⟩ := h
  obtain ⟨m0, rfl, _⟩ := gty_int (n := 10) Try.underlying3 h0
  obtain ⟨m1, rfl, _⟩ := gty_int (n := 10) Try.underlying3 h1
  obtain ⟨m2, rfl, _⟩ := gty_int (n := 10) Try.underlying3 h2
  obtain ⟨m3, rfl, _⟩ := gty_int (n := 10) Try.underlying3 h3
  obtain ⟨m4, rfl, _⟩ := gty_int (n := 10) Try.underlying3 h4
  exact ⟨⟨m0, m1, m2, m3, m4⟩, rfl⟩
theorem exa_main (g0 : List Cell) (s0 : GTy Try.prog 12 22 g0) (g1 : List Cell) (s1 : GTy Try.prog 12 24 g1) (g2 : List Cell) (s2 : GTy Try.prog 12 3 g2) (g3 : List Cell) (s3 : GTy Try.prog 12 3 g3) (g4 : List Cell) (s4 : GTy Try.prog 12 3 g4) (g5 : List Cell) (s5 : GTy Try.prog 12 3 g5) (g6 : List Cell) (s6 : GTy Try.prog 12 3 g6) :
    FnSpec Try.prog 3 [svOf Try.prog 22 g0, svOf Try.prog 24 g1, svOf Try.prog 3 g2, svOf Try.prog 3 g3, svOf Try.prog 3 g4, svOf Try.prog 3 g5, svOf Try.prog 3 g6] [] (b1 true) [] := by
  obtain ⟨l, rfl, hl, hr⟩ := gty_ints (n := 10) Try.underlying22 Try.underlying3 s0
  obtain ⟨b, rfl⟩ := bucket_of s1
  obtain ⟨m2, rfl, _⟩ := gty_int (n := 11) Try.underlying3 s2
  obtain ⟨m3, rfl, _⟩ := gty_int (n := 11) Try.underlying3 s3
  obtain ⟨m4, rfl, _⟩ := gty_int (n := 11) Try.underlying3 s4
  obtain ⟨m5, rfl, _⟩ := gty_int (n := 11) Try.underlying3 s5
  obtain ⟨m6, rfl, _⟩ := gty_int (n := 11) Try.underlying3 s6
  simp only [svOf, Try.underlying22, Try.underlying24, Try.underlying3, List.headD_cons]
  exact exa_spec l b m2 m3 m4 m5 m6 hr
end Go.Proofs.Ytcfkmkabjalgjac
