/- Contracts of functions, told of values, on the way to BandwidthDrains. -/
import Derived.Test.YtlaplcjenndigaaTyBa
import Derived.Test.YtlaplcjenndigaaBw3Ba
-- NEWGO
-- PRUNE: cg_ts cg_show cl_use
namespace Go.Proofs.Ytlaplcjenndigaa
set_option linter.unusedVariables false
set_option linter.unusedSimpArgs false
open Go.Proofs.Ytlaplcjenndigaa.Sh
set_option maxRecDepth 20000
theorem clone_spec (c : List Int) (k : Option Nat) (h0 : 0 < c.length) (h1 : c.length ≤ 1000) : FnSpec Try.prog 51 [gi c k] [] (.one (.osl 0 0 c.length none)) [some ⟨Ints c, 1⟩] := by
  refine fnspec_of mixed TT_ok TT_cl ⟨fun _ => false, fun _ => [], 0, fun _ => false, fun _ => false⟩ Try.func51 rfl (by kernel_rfl) rfl 8 rfl [.tmp 2] rfl ?_
  simp only [go_sem, Nat.reduceEqDiff, Nat.reduceAdd, Nat.reduceSub, Nat.reduceMul, Nat.reduceLT, Nat.reduceLeDiff, ↓reduceIte, reduceCtorEq, List.reduceReplicate, Int.cast_ofNat_Int, Int.reduceEq, Int.reduceLT, Int.reduceLE]
  repeat' (first
    | with_reducible refine And.intro ?_ ?_
    | (unfold OKC; kernel_rfl)
    | (apply okc_up <;> (first | ((repeat (first | exact Sub.nil | apply Sub.gfp | apply Sub.same)); done) | kernel_rfl))
    | (unfold EDG; kernel_rfl)
    | (intros; (try simp only [Bool.and_eq_true, Bool.or_eq_true, Bool.not_eq_true', Bool.not_eq_false', Bool.and_eq_false_iff, Bool.or_eq_false_iff, decide_eq_true_eq, decide_eq_false_iff_not] at *); omega)
    | (refine gt_if (fun h => ?_) (fun h => ?_) <;> (try simp only [h]))
    | (refine pt_if (fun h => ?_) (fun h => ?_) <;> (try simp only [h]))
    | (refine cd_if (fun h => ?_) (fun h => ?_) <;> (try simp only [h]))
    | (apply cg_tp
       case hl => rfl
       case ha => (simp only [List.map_cons, List.map_nil, prepV, prepC, idx, hpL', lookR, Nat.reduceEqDiff, if_true, if_false]; rfl)
       case hs => rfl
       case h => (first | fail))
    | (apply cg_any
       case hl => rfl
       case ha => (intro hb; simp only [List.map_cons, List.map_nil, cnd, hb, if_true, prepV, prepC, idx, hpL', lookR, Nat.reduceEqDiff, if_false]; rfl)
       case hs => (intro hb; simp only [cnd, hb, if_true]; rfl)
       case h => (first | fail))
    | (apply cl_plain
       case hs => rfl
       case ha => (simp only [List.map_cons, List.map_nil, prepV, prepC, idx, hpL', lookR, Nat.reduceEqDiff, if_true, if_false]; rfl)
       case h => (first | fail))
    | (apply cl_lend
       case hr => (simp only [List.map_cons, List.map_nil, hpL', lookR, Nat.reduceEqDiff, if_true, if_false]; first | exact map1 _ | exact map2 _ _ | exact map3 _ _ _)
       case ha => (simp only [List.map_cons, List.map_nil, prepV, prepC, idx, hpL', lookR, Nat.reduceEqDiff, if_true, if_false]; rfl)
       case hs => rfl
       case hn => decide
       case h => (first | fail)
       case hf => (simp only [List.forall_mem_cons, List.not_mem_nil, false_implies, implies_true, and_true, true_and, flat_cons, flat_nil, flat_ints, flat_bools, flat_app, Cell.refs, and_self, eq_self_iff_true, List.append_nil])
       case hl => (simp only [List.length_cons, List.length_nil]; decide))
    | (apply cl_lendx
       case ha => (simp only [List.map_cons, List.map_nil, prepV, prepC, idx, hpL', lookR, Nat.reduceEqDiff, if_true, if_false]; rfl)
       case hr => (simp only [lentRows, List.map_cons, List.map_nil, hpL', lookR, Row.ren, Cell.ren, idx, Ints_ren, Nat.reduceEqDiff, if_true, if_false, ↓reduceIte, reduceCtorEq]; rfl)
       case hs => rfl
       case hn => decide
       case h => (first | fail)
       case hf => (intro r hr; simp only [List.mem_cons, List.not_mem_nil, or_false] at hr; rcases hr with rfl | rfl <;> (refine ⟨_, rfl, ?_⟩; first | exact fun c hc q hq => absurd hq (Ints_refs0 _ _ c hc) | (simp [Cell.refs]; done)))
       case hl => (simp only [List.length_cons, List.length_nil]; decide))
    | (apply cl_show
       case ha => (simp only [List.map_cons, List.map_nil, prepV, prepC, idx, hpL', lookR, Nat.reduceEqDiff, if_true, if_false]; rfl)
       case hs => ((simp [snaps, SV.refs, Cell.refs, idx, hpL', lookR]) <;> (repeat' apply And.intro) <;> exact Ints_isG _)
       case h => (first | fail)
       case hg => ((simp [SV.noG, SV.noGL, Cell.noG]) <;> (repeat' apply And.intro) <;> exact Ints_noG _))
    | ((first | refine s1_id ?_ | refine swp_id ?_ | refine sops_id ?_ | refine s2_id ?_); simp only [go_sem, Nat.reduceEqDiff, Nat.reduceAdd, Nat.reduceSub, Nat.reduceMul, Nat.reduceLT, Nat.reduceLeDiff, ↓reduceIte, reduceCtorEq, List.reduceReplicate, Int.cast_ofNat_Int, Int.reduceEq, Int.reduceLT, Int.reduceLE, SV.ren, SV.renL, Cell.ren, Row.ren, renO, bk, back, outUpsFrom, Ints_ren])
    | (apply fs_nil <;> (try simp only [go_sem, resV, resS, SV.ren, SV.renL, Cell.ren, St.tmF, St.hpF, idx, renO, Row.ren, evS, slot, lookR, Nat.reduceEqDiff, ↓reduceIte, reduceCtorEq, if_true, if_false, Option.getD_some, Option.getD_none, List.map_cons, List.map_nil, sLoad, readAt, readNeed, Ints_ren, Ints_length, Ints_getD, and_true, true_and, List.getD_cons_zero, List.getD_cons_succ]) <;> (try rfl)))
  (refine fs_flat [(5, ⟨Ints c, 1⟩)] (by simp) (by simp only [List.map_cons, List.map_nil]; decide) (by simp only [go_sem, resV, resS, SV.ren, SV.renL, Cell.ren, St.tmF, St.hpF, idx, renO, Row.ren, evS, slot, lookR, Nat.reduceEqDiff, ↓reduceIte, reduceCtorEq, if_true, if_false, Option.getD_some, Option.getD_none, List.map_cons, List.map_nil, sLoad, readAt, readNeed, Ints_ren, Ints_length, Ints_getD, and_true, true_and, List.getD_cons_zero, List.getD_cons_succ]; try decide) ?_ (by simp only [List.forall_mem_cons, List.not_mem_nil, false_implies, implies_true, and_true, St.hpF, lookR, Nat.reduceEqDiff, if_true, if_false, ↓reduceIte] <;> (repeat' apply And.intro) <;> (first | rfl | trivial)) (by simp only [List.forall_mem_cons, List.not_mem_nil, false_implies, implies_true, and_true, true_and, flat_cons, flat_nil, flat_ints, flat_bools, flat_app, Cell.refs, and_self, eq_self_iff_true, List.append_nil]) ?_ <;> (try simp only [go_sem, resV, resS, SV.ren, SV.renL, Cell.ren, St.tmF, St.hpF, idx, renO, Row.ren, evS, slot, lookR, Nat.reduceEqDiff, ↓reduceIte, reduceCtorEq, if_true, if_false, Option.getD_some, Option.getD_none, List.map_cons, List.map_nil, sLoad, readAt, readNeed, Ints_ren, Ints_length, Ints_getD, and_true, true_and, List.getD_cons_zero, List.getD_cons_succ]) <;> (try rfl))
theorem rcopy_spec (x : Pl) (k : Option Nat) (h1 : x.c.length ≤ 1000) : FnSpec Try.prog 43 [plt x k] [] (.agg (plo x 0 x.c.length none)) [some ⟨Ints x.c, 1⟩] := by
  obtain ⟨g, q, b, s, l, c, sp, pe, th, em⟩ := x
  simp only at h1
  refine fnspec_of mixed TT_ok TT_cl ⟨fun _ => false, fun _ => [], 0, fun _ => false, fun _ => false⟩ Try.func43 rfl (by kernel_rfl) rfl 8 rfl [.cell 2 26] rfl ?_
  simp only [go_sem, Nat.reduceEqDiff, Nat.reduceAdd, Nat.reduceSub, Nat.reduceMul, Nat.reduceLT, Nat.reduceLeDiff, ↓reduceIte, reduceCtorEq, List.reduceReplicate, Int.cast_ofNat_Int, Int.reduceEq, Int.reduceLT, Int.reduceLE, plc]
  repeat' (first
    | with_reducible refine And.intro ?_ ?_
    | (unfold OKC; kernel_rfl)
    | (apply okc_up <;> (first | ((repeat (first | exact Sub.nil | apply Sub.gfp | apply Sub.same)); done) | kernel_rfl))
    | (unfold EDG; kernel_rfl)
    | (intros; (try simp only [Bool.and_eq_true, Bool.or_eq_true, Bool.not_eq_true', Bool.not_eq_false', Bool.and_eq_false_iff, Bool.or_eq_false_iff, decide_eq_true_eq, decide_eq_false_iff_not] at *); omega)
    | (refine gt_if (fun h => ?_) (fun h => ?_) <;> (try simp only [h]))
    | (refine pt_if (fun h => ?_) (fun h => ?_) <;> (try simp only [h]))
    | (refine cd_if (fun h => ?_) (fun h => ?_) <;> (try simp only [h]))
    | (apply cg_tp
       case hl => rfl
       case ha => (simp only [List.map_cons, List.map_nil, prepV, prepC, idx, hpL', lookR, Nat.reduceEqDiff, if_true, if_false]; rfl)
       case hs => rfl
       case h => (first | fail))
    | (apply cg_any
       case hl => rfl
       case ha => (intro hb; simp only [List.map_cons, List.map_nil, cnd, hb, if_true, prepV, prepC, idx, hpL', lookR, Nat.reduceEqDiff, if_false]; rfl)
       case hs => (intro hb; simp only [cnd, hb, if_true]; rfl)
       case h => (first | fail))
    | (apply cl_plain
       case hs => rfl
       case ha => (simp only [List.map_cons, List.map_nil, prepV, prepC, idx, hpL', lookR, Nat.reduceEqDiff, if_true, if_false]; rfl)
       case h => (first | fail))
    | (apply cl_lend
       case hr => (simp only [List.map_cons, List.map_nil, hpL', lookR, Nat.reduceEqDiff, if_true, if_false]; first | exact map1 _ | exact map2 _ _ | exact map3 _ _ _)
       case ha => (simp only [List.map_cons, List.map_nil, prepV, prepC, idx, hpL', lookR, Nat.reduceEqDiff, if_true, if_false]; rfl)
       case hs => rfl
       case hn => decide
       case h => (first | fail)
       case hf => (simp only [List.forall_mem_cons, List.not_mem_nil, false_implies, implies_true, and_true, true_and, flat_cons, flat_nil, flat_ints, flat_bools, flat_app, Cell.refs, and_self, eq_self_iff_true, List.append_nil])
       case hl => (simp only [List.length_cons, List.length_nil]; decide))
    | (apply cl_lendx
       case ha => (simp only [List.map_cons, List.map_nil, prepV, prepC, idx, hpL', lookR, Nat.reduceEqDiff, if_true, if_false]; rfl)
       case hr => (simp only [lentRows, List.map_cons, List.map_nil, hpL', lookR, Row.ren, Cell.ren, idx, Ints_ren, Nat.reduceEqDiff, if_true, if_false, ↓reduceIte, reduceCtorEq]; rfl)
       case hs => rfl
       case hn => decide
       case h => (first | fail)
       case hf => (intro r hr; simp only [List.mem_cons, List.not_mem_nil, or_false] at hr; rcases hr with rfl | rfl <;> (refine ⟨_, rfl, ?_⟩; first | exact fun c hc q hq => absurd hq (Ints_refs0 _ _ c hc) | (simp [Cell.refs]; done)))
       case hl => (simp only [List.length_cons, List.length_nil]; decide))
    | (apply cl_show
       case ha => (simp only [List.map_cons, List.map_nil, prepV, prepC, idx, hpL', lookR, Nat.reduceEqDiff, if_true, if_false]; rfl)
       case hs => ((simp [snaps, SV.refs, Cell.refs, idx, hpL', lookR]) <;> (repeat' apply And.intro) <;> exact Ints_isG _)
       case h => (first | fail)
       case hg => ((simp [SV.noG, SV.noGL, Cell.noG]) <;> (repeat' apply And.intro) <;> exact Ints_noG _))
    | ((first | refine s1_id ?_ | refine swp_id ?_ | refine sops_id ?_ | refine s2_id ?_); simp only [plc, go_sem, Nat.reduceEqDiff, Nat.reduceAdd, Nat.reduceSub, Nat.reduceMul, Nat.reduceLT, Nat.reduceLeDiff, ↓reduceIte, reduceCtorEq, List.reduceReplicate, Int.cast_ofNat_Int, Int.reduceEq, Int.reduceLT, Int.reduceLE, SV.ren, SV.renL, Cell.ren, Row.ren, renO, bk, back, outUpsFrom, Ints_ren])
    | (apply fs_nil <;> (try simp only [go_sem, resV, resS, SV.ren, SV.renL, Cell.ren, St.tmF, St.hpF, idx, renO, Row.ren, evS, slot, lookR, Nat.reduceEqDiff, ↓reduceIte, reduceCtorEq, if_true, if_false, Option.getD_some, Option.getD_none, List.map_cons, List.map_nil, sLoad, readAt, readNeed, Ints_ren, Ints_length, Ints_getD, and_true, true_and, List.getD_cons_zero, List.getD_cons_succ]) <;> (try rfl)))
  (refine fs_flat [(4, ⟨Ints c, 1⟩)] (by simp) (by simp only [List.map_cons, List.map_nil]; decide) (by simp only [go_sem, resV, resS, SV.ren, SV.renL, Cell.ren, St.tmF, St.hpF, idx, renO, Row.ren, evS, slot, lookR, Nat.reduceEqDiff, ↓reduceIte, reduceCtorEq, if_true, if_false, Option.getD_some, Option.getD_none, List.map_cons, List.map_nil, sLoad, readAt, readNeed, Ints_ren, Ints_length, Ints_getD, and_true, true_and, List.getD_cons_zero, List.getD_cons_succ]; try decide) ?_ (by simp only [List.forall_mem_cons, List.not_mem_nil, false_implies, implies_true, and_true, St.hpF, lookR, Nat.reduceEqDiff, if_true, if_false, ↓reduceIte] <;> (repeat' apply And.intro) <;> (first | rfl | trivial)) (by simp only [List.forall_mem_cons, List.not_mem_nil, false_implies, implies_true, and_true, true_and, flat_cons, flat_nil, flat_ints, flat_bools, flat_app, Cell.refs, and_self, eq_self_iff_true, List.append_nil]) ?_ <;> (try simp only [go_sem, resV, resS, SV.ren, SV.renL, Cell.ren, St.tmF, St.hpF, idx, renO, Row.ren, evS, slot, lookR, Nat.reduceEqDiff, ↓reduceIte, reduceCtorEq, if_true, if_false, Option.getD_some, Option.getD_none, List.map_cons, List.map_nil, sLoad, readAt, readNeed, Ints_ren, Ints_length, Ints_getD, and_true, true_and, List.getD_cons_zero, List.getD_cons_succ]) <;> (try rfl))
theorem copy_spec (x : Pl) (k : Option Nat) (h0 : 0 < x.c.length) (h1 : x.c.length ≤ 1000) : FnSpec Try.prog 38 [plt x k] [] (.agg (plo x 0 x.c.length none)) [some ⟨Ints x.c, 1⟩] := by
  obtain ⟨g, q, b, s, l, c, sp, pe, th, em⟩ := x
  simp only at h0 h1
  refine fnspec_of mixed TT_ok TT_cl ⟨fun _ => false, fun _ => [], 0, fun _ => false, fun _ => false⟩ Try.func38 rfl (by kernel_rfl) rfl 8 rfl [.cell 2 26] rfl ?_
  simp only [go_sem, Nat.reduceEqDiff, Nat.reduceAdd, Nat.reduceSub, Nat.reduceMul, Nat.reduceLT, Nat.reduceLeDiff, ↓reduceIte, reduceCtorEq, List.reduceReplicate, Int.cast_ofNat_Int, Int.reduceEq, Int.reduceLT, Int.reduceLE, plc]
  repeat' (first
    | with_reducible refine And.intro ?_ ?_
    | (unfold OKC; kernel_rfl)
    | (apply okc_up <;> (first | ((repeat (first | exact Sub.nil | apply Sub.gfp | apply Sub.same)); done) | kernel_rfl))
    | (unfold EDG; kernel_rfl)
    | (intros; (try simp only [Bool.and_eq_true, Bool.or_eq_true, Bool.not_eq_true', Bool.not_eq_false', Bool.and_eq_false_iff, Bool.or_eq_false_iff, decide_eq_true_eq, decide_eq_false_iff_not] at *); omega)
    | (refine gt_if (fun h => ?_) (fun h => ?_) <;> (try simp only [h]))
    | (refine pt_if (fun h => ?_) (fun h => ?_) <;> (try simp only [h]))
    | (refine cd_if (fun h => ?_) (fun h => ?_) <;> (try simp only [h]))
    | (apply cg_tp
       case hl => rfl
       case ha => (simp only [List.map_cons, List.map_nil, prepV, prepC, idx, hpL', lookR, Nat.reduceEqDiff, if_true, if_false]; rfl)
       case hs => rfl
       case h => (first | exact clone_spec _ _ h0 h1))
    | (apply cg_any
       case hl => rfl
       case ha => (intro hb; simp only [List.map_cons, List.map_nil, cnd, hb, if_true, prepV, prepC, idx, hpL', lookR, Nat.reduceEqDiff, if_false]; rfl)
       case hs => (intro hb; simp only [cnd, hb, if_true]; rfl)
       case h => (first | exact clone_spec _ _ h0 h1))
    | (apply cl_plain
       case hs => rfl
       case ha => (simp only [List.map_cons, List.map_nil, prepV, prepC, idx, hpL', lookR, Nat.reduceEqDiff, if_true, if_false]; rfl)
       case h => (first | exact clone_spec _ _ h0 h1))
    | (apply cl_lend
       case hr => (simp only [List.map_cons, List.map_nil, hpL', lookR, Nat.reduceEqDiff, if_true, if_false]; first | exact map1 _ | exact map2 _ _ | exact map3 _ _ _)
       case ha => (simp only [List.map_cons, List.map_nil, prepV, prepC, idx, hpL', lookR, Nat.reduceEqDiff, if_true, if_false]; rfl)
       case hs => rfl
       case hn => decide
       case h => (first | exact clone_spec _ _ h0 h1)
       case hf => (simp only [List.forall_mem_cons, List.not_mem_nil, false_implies, implies_true, and_true, true_and, flat_cons, flat_nil, flat_ints, flat_bools, flat_app, Cell.refs, and_self, eq_self_iff_true, List.append_nil])
       case hl => (simp only [List.length_cons, List.length_nil]; decide))
    | (apply cl_lendx
       case ha => (simp only [List.map_cons, List.map_nil, prepV, prepC, idx, hpL', lookR, Nat.reduceEqDiff, if_true, if_false]; rfl)
       case hr => (simp only [lentRows, List.map_cons, List.map_nil, hpL', lookR, Row.ren, Cell.ren, idx, Ints_ren, Nat.reduceEqDiff, if_true, if_false, ↓reduceIte, reduceCtorEq]; rfl)
       case hs => rfl
       case hn => decide
       case h => (first | exact clone_spec _ _ h0 h1)
       case hf => (intro r hr; simp only [List.mem_cons, List.not_mem_nil, or_false] at hr; rcases hr with rfl | rfl <;> (refine ⟨_, rfl, ?_⟩; first | exact fun c hc q hq => absurd hq (Ints_refs0 _ _ c hc) | (simp [Cell.refs]; done)))
       case hl => (simp only [List.length_cons, List.length_nil]; decide))
    | (apply cl_show
       case ha => (simp only [List.map_cons, List.map_nil, prepV, prepC, idx, hpL', lookR, Nat.reduceEqDiff, if_true, if_false]; rfl)
       case hs => ((simp [snaps, SV.refs, Cell.refs, idx, hpL', lookR]) <;> (repeat' apply And.intro) <;> exact Ints_isG _)
       case h => (first | exact clone_spec _ _ h0 h1)
       case hg => ((simp [SV.noG, SV.noGL, Cell.noG]) <;> (repeat' apply And.intro) <;> exact Ints_noG _))
    | ((first | refine s1_id ?_ | refine swp_id ?_ | refine sops_id ?_ | refine s2_id ?_); simp only [plc, go_sem, Nat.reduceEqDiff, Nat.reduceAdd, Nat.reduceSub, Nat.reduceMul, Nat.reduceLT, Nat.reduceLeDiff, ↓reduceIte, reduceCtorEq, List.reduceReplicate, Int.cast_ofNat_Int, Int.reduceEq, Int.reduceLT, Int.reduceLE, SV.ren, SV.renL, Cell.ren, Row.ren, renO, bk, back, outUpsFrom, Ints_ren])
    | (apply fs_nil <;> (try simp only [go_sem, resV, resS, SV.ren, SV.renL, Cell.ren, St.tmF, St.hpF, idx, renO, Row.ren, evS, slot, lookR, Nat.reduceEqDiff, ↓reduceIte, reduceCtorEq, if_true, if_false, Option.getD_some, Option.getD_none, List.map_cons, List.map_nil, sLoad, readAt, readNeed, Ints_ren, Ints_length, Ints_getD, and_true, true_and, List.getD_cons_zero, List.getD_cons_succ]) <;> (try rfl)))
  (refine fs_flat [(4, ⟨Ints c, 1⟩)] (by simp) (by simp only [List.map_cons, List.map_nil]; decide) (by simp only [go_sem, resV, resS, SV.ren, SV.renL, Cell.ren, St.tmF, St.hpF, idx, renO, Row.ren, evS, slot, lookR, Nat.reduceEqDiff, ↓reduceIte, reduceCtorEq, if_true, if_false, Option.getD_some, Option.getD_none, List.map_cons, List.map_nil, sLoad, readAt, readNeed, Ints_ren, Ints_length, Ints_getD, and_true, true_and, List.getD_cons_zero, List.getD_cons_succ]; try decide) ?_ (by simp only [List.forall_mem_cons, List.not_mem_nil, false_implies, implies_true, and_true, St.hpF, lookR, Nat.reduceEqDiff, if_true, if_false, ↓reduceIte] <;> (repeat' apply And.intro) <;> (first | rfl | trivial)) (by simp only [List.forall_mem_cons, List.not_mem_nil, false_implies, implies_true, and_true, true_and, flat_cons, flat_nil, flat_ints, flat_bools, flat_app, Cell.refs, and_self, eq_self_iff_true, List.append_nil]) ?_ <;> (try simp only [go_sem, resV, resS, SV.ren, SV.renL, Cell.ren, St.tmF, St.hpF, idx, renO, Row.ren, evS, slot, lookR, Nat.reduceEqDiff, ↓reduceIte, reduceCtorEq, if_true, if_false, Option.getD_some, Option.getD_none, List.map_cons, List.map_nil, sLoad, readAt, readNeed, Ints_ren, Ints_length, Ints_getD, and_true, true_and, List.getD_cons_zero, List.getD_cons_succ]) <;> (try rfl))
def pmv (x : Pl) (cpu n : Int) : Pl := { x with l := x.l - n, c := x.c.set cpu.toNat (x.c.getD cpu.toNat 0 + n) }
theorem move_spec (x : Pl) (cpu n : Int) (j : Nat) (k : Option Nat) (hj : x.c.length = j) (hc : 0 ≤ cpu ∧ cpu < j) (h1 : -1000000000000 ≤ n ∧ n ≤ 1000000000000) (h2 : -1000000000000 ≤ x.l ∧ x.l ≤ 1000000000000) (h3 : -1000000000000 ≤ x.c.getD cpu.toNat 0 ∧ x.c.getD cpu.toNat 0 ≤ 1000000000000) :
    FnSpec Try.prog 42 [.one (.optr 0 0), i1 cpu, i1 n] [⟨plo x 1 j k, 10⟩, ⟨Ints x.c, 1⟩] (.tup []) [some ⟨plo (pmv x cpu n) 1 j k, 10⟩, some ⟨Ints (pmv x cpu n).c, 1⟩] := by
  obtain ⟨g, q, b, s, l, c, sp, pe, th, em⟩ := x
  simp only at h2 h3 hj
  refine fnspec_of mixed TT_ok TT_cl ⟨fun _ => false, fun _ => [], 2, fun _ => false, fun _ => false⟩ Try.func42 rfl (by kernel_rfl) rfl 24 rfl [] rfl ?_
  simp only [go_sem, Nat.reduceEqDiff, Nat.reduceAdd, Nat.reduceSub, Nat.reduceMul, Nat.reduceLT, Nat.reduceLeDiff, ↓reduceIte, reduceCtorEq, List.reduceReplicate, Int.cast_ofNat_Int, Int.reduceEq, Int.reduceLT, Int.reduceLE, plo]
  repeat' (first
    | with_reducible refine And.intro ?_ ?_
    | (unfold OKC; kernel_rfl)
    | (apply okc_up <;> (first | ((repeat (first | exact Sub.nil | apply Sub.gfp | apply Sub.same)); done) | kernel_rfl))
    | (unfold EDG; kernel_rfl)
    | (intros; (try simp only [Bool.and_eq_true, Bool.or_eq_true, Bool.not_eq_true', Bool.not_eq_false', Bool.and_eq_false_iff, Bool.or_eq_false_iff, decide_eq_true_eq, decide_eq_false_iff_not] at *); omega)
    | (refine gt_if (fun h => ?_) (fun h => ?_) <;> (try simp only [h]))
    | (refine pt_if (fun h => ?_) (fun h => ?_) <;> (try simp only [h]))
    | (refine cd_if (fun h => ?_) (fun h => ?_) <;> (try simp only [h]))
    | (apply cg_tp
       case hl => rfl
       case ha => (simp only [List.map_cons, List.map_nil, prepV, prepC, idx, hpL', lookR, Nat.reduceEqDiff, if_true, if_false]; rfl)
       case hs => rfl
       case h => (first | fail))
    | (apply cg_any
       case hl => rfl
       case ha => (intro hb; simp only [List.map_cons, List.map_nil, cnd, hb, if_true, prepV, prepC, idx, hpL', lookR, Nat.reduceEqDiff, if_false]; rfl)
       case hs => (intro hb; simp only [cnd, hb, if_true]; rfl)
       case h => (first | fail))
    | (apply cl_plain
       case hs => rfl
       case ha => (simp only [List.map_cons, List.map_nil, prepV, prepC, idx, hpL', lookR, Nat.reduceEqDiff, if_true, if_false]; rfl)
       case h => (first | fail))
    | (apply cl_lend
       case hr => (simp only [List.map_cons, List.map_nil, hpL', lookR, Nat.reduceEqDiff, if_true, if_false]; first | exact map1 _ | exact map2 _ _ | exact map3 _ _ _)
       case ha => (simp only [List.map_cons, List.map_nil, prepV, prepC, idx, hpL', lookR, Nat.reduceEqDiff, if_true, if_false]; rfl)
       case hs => rfl
       case hn => decide
       case h => (first | fail)
       case hf => (simp only [List.forall_mem_cons, List.not_mem_nil, false_implies, implies_true, and_true, true_and, flat_cons, flat_nil, flat_ints, flat_bools, flat_app, Cell.refs, and_self, eq_self_iff_true, List.append_nil])
       case hl => (simp only [List.length_cons, List.length_nil]; decide))
    | (apply cl_lendx
       case ha => (simp only [List.map_cons, List.map_nil, prepV, prepC, idx, hpL', lookR, Nat.reduceEqDiff, if_true, if_false]; rfl)
       case hr => (simp only [lentRows, List.map_cons, List.map_nil, hpL', lookR, Row.ren, Cell.ren, idx, Ints_ren, Nat.reduceEqDiff, if_true, if_false, ↓reduceIte, reduceCtorEq]; rfl)
       case hs => rfl
       case hn => decide
       case h => (first | fail)
       case hf => (intro r hr; simp only [List.mem_cons, List.not_mem_nil, or_false] at hr; rcases hr with rfl | rfl <;> (refine ⟨_, rfl, ?_⟩; first | exact fun c hc q hq => absurd hq (Ints_refs0 _ _ c hc) | (simp [Cell.refs]; done)))
       case hl => (simp only [List.length_cons, List.length_nil]; decide))
    | (apply cl_show
       case ha => (simp only [List.map_cons, List.map_nil, prepV, prepC, idx, hpL', lookR, Nat.reduceEqDiff, if_true, if_false]; rfl)
       case hs => ((simp [snaps, SV.refs, Cell.refs, idx, hpL', lookR]) <;> (repeat' apply And.intro) <;> exact Ints_isG _)
       case h => (first | fail)
       case hg => ((simp [SV.noG, SV.noGL, Cell.noG]) <;> (repeat' apply And.intro) <;> exact Ints_noG _))
    | ((first | refine s1_id ?_ | refine swp_id ?_ | refine sops_id ?_ | refine s2_id ?_); simp only [plo, go_sem, Nat.reduceEqDiff, Nat.reduceAdd, Nat.reduceSub, Nat.reduceMul, Nat.reduceLT, Nat.reduceLeDiff, ↓reduceIte, reduceCtorEq, List.reduceReplicate, Int.cast_ofNat_Int, Int.reduceEq, Int.reduceLT, Int.reduceLE, SV.ren, SV.renL, Cell.ren, Row.ren, renO, bk, back, outUpsFrom, Ints_ren])
    | (apply fs_nil <;> (try simp only [go_sem, resV, resS, SV.ren, SV.renL, Cell.ren, St.tmF, St.hpF, idx, renO, Row.ren, evS, slot, lookR, Nat.reduceEqDiff, ↓reduceIte, reduceCtorEq, if_true, if_false, Option.getD_some, Option.getD_none, List.map_cons, List.map_nil, sLoad, readAt, readNeed, Ints_ren, Ints_length, Ints_getD, and_true, true_and, List.getD_cons_zero, List.getD_cons_succ]) <;> (try rfl)))
  (refine fs_mk [0, 1] (by simp) (by decide) (by simp only [go_sem, resV, resS, SV.ren, SV.renL, Cell.ren, St.tmF, St.hpF, idx, renO, Row.ren, evS, slot, lookR, Nat.reduceEqDiff, ↓reduceIte, reduceCtorEq, if_true, if_false, Option.getD_some, Option.getD_none, List.map_cons, List.map_nil, sLoad, readAt, readNeed, Ints_ren, Ints_length, Ints_getD, and_true, true_and, List.getD_cons_zero, List.getD_cons_succ]; try decide) ?_ ?_ ?_ <;> (try simp only [go_sem, resV, resS, SV.ren, SV.renL, Cell.ren, St.tmF, St.hpF, idx, renO, Row.ren, evS, slot, lookR, Nat.reduceEqDiff, ↓reduceIte, reduceCtorEq, if_true, if_false, Option.getD_some, Option.getD_none, List.map_cons, List.map_nil, sLoad, readAt, readNeed, Ints_ren, Ints_length, Ints_getD, and_true, true_and, List.getD_cons_zero, List.getD_cons_succ, St.hpF, lookR, renO, Row.ren, Cell.ren, idx, List.map_cons, List.map_nil, Ints_ren, List.forall_mem_cons, List.not_mem_nil, false_implies, implies_true, Option.some.injEq, forall_eq', and_true, true_and, pmv, plo]) <;> (try rfl) <;> (try ((repeat' apply And.intro) <;> (first | trivial | exact fun c hc q hq => absurd hq (Ints_refs0 _ _ c hc) | (simp [Cell.refs]; done)))))
/-- what is asked of pools that are looked at -/
structure Wk (x : Pl) : Prop where
  b : -9223372036854775808 ≤ x.b ∧ x.b ≤ 9223372036854775807
  pe : -1000000 ≤ x.pe ∧ x.pe ≤ 9223372036854775807
  len : x.c.length ≤ 1000
theorem rchk_spec (x : Pl) (k : Option Nat) (hw : Wk x) : FnSpec Try.prog 24 [plt x k] [] (b1 (pck x)) [] := by
  by_cases h : x.b ≤ 4611686018427387904
  · exact rcheck_spec x k h hw.b.1 hw.pe (by have := hw.len; omega)
  · exact rcheck_big x k (by omega)
theorem wk_of {x : Pl} (h : pck x = true) : Wk x := by
  rw [pck_iff, stl_iff] at h
  exact ⟨by omega, by omega, by omega⟩
theorem sml_pck {x : Pl} (h : pck x = true) : Sml x := by
  rw [pck_iff] at h
  exact sml_of h.2.1 (by omega) h.2.2.2.2.1.1 (wi_iff.2 h.2.2.2.2.1.2.1)
def pchk (x : Pl) (cpu : Int) : Int := if pck x = false then 1 else if wi cpu 0 (x.c.length - 1) = false then 3 else 0
theorem pchk_ok {x : Pl} {cpu : Int} (h : pchk x cpu = 0) : pck x = true ∧ 0 ≤ cpu ∧ cpu < x.c.length := by
  unfold pchk at h
  split at h
  · cases h
  · split at h
    · cases h
    · rename_i h1 h2
      simp only [Bool.not_eq_false, wi_iff] at h1 h2
      exact ⟨h1, by omega, by omega⟩
theorem chk_spec (x : Pl) (k : Option Nat) (cpu : Int) (hl : x.c.length ≤ 1000) : FnSpec Try.prog 41 [plt x k, i1 cpu] [] (i1 (pchk x cpu)) [] := by
  have h1 := check_spec x k
  have e : pchk x cpu = if pck x = false then 1 else if wi cpu 0 (x.c.length - 1) = false then 3 else 0 := rfl
  generalize pchk x cpu = r at *
  generalize pck x = p at *
  obtain ⟨g, q, b, s, l, c, sp, pe, th, em⟩ := x
  simp only [plt, plc] at *
  subst e
  refine fnspec_of mixed TT_ok TT_cl ⟨fun _ => false, fun _ => [], 0, fun _ => false, fun _ => false⟩ Try.func41 rfl (by kernel_rfl) rfl 15 rfl [.tmp 4] rfl ?_
  simp only [go_sem, Nat.reduceEqDiff, Nat.reduceAdd, Nat.reduceSub, Nat.reduceMul, Nat.reduceLT, Nat.reduceLeDiff, ↓reduceIte, reduceCtorEq, List.reduceReplicate, Int.cast_ofNat_Int, Int.reduceEq, Int.reduceLT, Int.reduceLE, plc]
  repeat' (first
    | with_reducible refine And.intro ?_ ?_
    | (unfold OKC; kernel_rfl)
    | (apply okc_up <;> (first | ((repeat (first | exact Sub.nil | apply Sub.gfp | apply Sub.same)); done) | kernel_rfl))
    | (unfold EDG; kernel_rfl)
    | (intros; (try simp only [Bool.and_eq_true, Bool.or_eq_true, Bool.not_eq_true', Bool.not_eq_false', Bool.and_eq_false_iff, Bool.or_eq_false_iff, decide_eq_true_eq, decide_eq_false_iff_not] at *); omega)
    | (refine gt_if (fun h => ?_) (fun h => ?_) <;> (try simp only [h]))
    | (refine pt_if (fun h => ?_) (fun h => ?_) <;> (try simp only [h]))
    | (refine cd_if (fun h => ?_) (fun h => ?_) <;> (try simp only [h]))
    | (apply cg_tp
       case hl => rfl
       case ha => (simp only [List.map_cons, List.map_nil, prepV, prepC, idx, hpL', lookR, Nat.reduceEqDiff, if_true, if_false]; rfl)
       case hs => rfl
       case h => (first | exact h1 .. | exact within_spec ..))
    | (apply cg_any
       case hl => rfl
       case ha => (intro hb; simp only [List.map_cons, List.map_nil, cnd, hb, if_true, prepV, prepC, idx, hpL', lookR, Nat.reduceEqDiff, if_false]; rfl)
       case hs => (intro hb; simp only [cnd, hb, if_true]; rfl)
       case h => (first | exact h1 .. | exact within_spec ..))
    | (apply cl_plain
       case hs => rfl
       case ha => (simp only [List.map_cons, List.map_nil, prepV, prepC, idx, hpL', lookR, Nat.reduceEqDiff, if_true, if_false]; rfl)
       case h => (first | exact h1 .. | exact within_spec ..))
    | (apply cl_lend
       case hr => (simp only [List.map_cons, List.map_nil, hpL', lookR, Nat.reduceEqDiff, if_true, if_false]; first | exact map1 _ | exact map2 _ _ | exact map3 _ _ _)
       case ha => (simp only [List.map_cons, List.map_nil, prepV, prepC, idx, hpL', lookR, Nat.reduceEqDiff, if_true, if_false]; rfl)
       case hs => rfl
       case hn => decide
       case h => (first | exact h1 .. | exact within_spec ..)
       case hf => (simp only [List.forall_mem_cons, List.not_mem_nil, false_implies, implies_true, and_true, true_and, flat_cons, flat_nil, flat_ints, flat_bools, flat_app, Cell.refs, and_self, eq_self_iff_true, List.append_nil])
       case hl => (simp only [List.length_cons, List.length_nil]; decide))
    | (apply cl_lendx
       case ha => (simp only [List.map_cons, List.map_nil, prepV, prepC, idx, hpL', lookR, Nat.reduceEqDiff, if_true, if_false]; rfl)
       case hr => (simp only [lentRows, List.map_cons, List.map_nil, hpL', lookR, Row.ren, Cell.ren, idx, Ints_ren, Nat.reduceEqDiff, if_true, if_false, ↓reduceIte, reduceCtorEq]; rfl)
       case hs => rfl
       case hn => decide
       case h => (first | exact h1 .. | exact within_spec ..)
       case hf => (intro r hr; simp only [List.mem_cons, List.not_mem_nil, or_false] at hr; rcases hr with rfl | rfl <;> (refine ⟨_, rfl, ?_⟩; first | exact fun c hc q hq => absurd hq (Ints_refs0 _ _ c hc) | (simp [Cell.refs]; done)))
       case hl => (simp only [List.length_cons, List.length_nil]; decide))
    | (apply cl_show
       case ha => (simp only [List.map_cons, List.map_nil, prepV, prepC, idx, hpL', lookR, Nat.reduceEqDiff, if_true, if_false]; rfl)
       case hs => ((simp [snaps, SV.refs, Cell.refs, idx, hpL', lookR]) <;> (repeat' apply And.intro) <;> exact Ints_isG _)
       case h => (first | exact h1 .. | exact within_spec ..)
       case hg => ((simp [SV.noG, SV.noGL, Cell.noG]) <;> (repeat' apply And.intro) <;> exact Ints_noG _))
    | ((first | refine s1_id ?_ | refine swp_id ?_ | refine sops_id ?_ | refine s2_id ?_); simp only [plc, go_sem, Nat.reduceEqDiff, Nat.reduceAdd, Nat.reduceSub, Nat.reduceMul, Nat.reduceLT, Nat.reduceLeDiff, ↓reduceIte, reduceCtorEq, List.reduceReplicate, Int.cast_ofNat_Int, Int.reduceEq, Int.reduceLT, Int.reduceLE, SV.ren, SV.renL, Cell.ren, Row.ren, renO, bk, back, outUpsFrom, Ints_ren])
    | (apply fs_nil <;> (try simp only [go_sem, resV, resS, SV.ren, SV.renL, Cell.ren, St.tmF, St.hpF, idx, renO, Row.ren, evS, slot, lookR, Nat.reduceEqDiff, ↓reduceIte, reduceCtorEq, if_true, if_false, Option.getD_some, Option.getD_none, List.map_cons, List.map_nil, sLoad, readAt, readNeed, Ints_ren, Ints_length, Ints_getD, and_true, true_and, List.getD_cons_zero, List.getD_cons_succ]) <;> (try rfl)))
  all_goals simp only [Bool.not_eq_true', Bool.not_eq_false', decide_eq_true_eq, decide_eq_false_iff_not, Bool.or_eq_true, Bool.or_eq_false_iff, Bool.and_eq_true] at *
  all_goals simp only [*, if_true, if_false, Bool.true_eq_false, Bool.false_eq_true]
theorem rready_spec (x : Pl) (k : Option Nat) (cpu : Int) (hw : Wk x) : FnSpec Try.prog 49 [plt x k, i1 cpu] [] (i1 (pchk x cpu)) [] := by
  have h1 := rchk_spec x k hw
  have hl := hw.len
  have e : pchk x cpu = if pck x = false then 1 else if wi cpu 0 (x.c.length - 1) = false then 3 else 0 := rfl
  generalize pchk x cpu = r at *
  generalize pck x = p at *
  clear hw
  obtain ⟨g, q, b, s, l, c, sp, pe, th, em⟩ := x
  simp only [plt, plc] at *
  subst e
  refine fnspec_of mixed TT_ok TT_cl ⟨fun _ => false, fun _ => [], 0, fun _ => false, fun _ => false⟩ Try.func49 rfl (by kernel_rfl) rfl 17 rfl [.tmp 4] rfl ?_
  simp only [go_sem, Nat.reduceEqDiff, Nat.reduceAdd, Nat.reduceSub, Nat.reduceMul, Nat.reduceLT, Nat.reduceLeDiff, ↓reduceIte, reduceCtorEq, List.reduceReplicate, Int.cast_ofNat_Int, Int.reduceEq, Int.reduceLT, Int.reduceLE, plc]
  repeat' (first
    | with_reducible refine And.intro ?_ ?_
    | (unfold OKC; kernel_rfl)
    | (apply okc_up <;> (first | ((repeat (first | exact Sub.nil | apply Sub.gfp | apply Sub.same)); done) | kernel_rfl))
    | (unfold EDG; kernel_rfl)
    | (intros; (try simp only [Bool.and_eq_true, Bool.or_eq_true, Bool.not_eq_true', Bool.not_eq_false', Bool.and_eq_false_iff, Bool.or_eq_false_iff, decide_eq_true_eq, decide_eq_false_iff_not] at *); omega)
    | (refine gt_if (fun h => ?_) (fun h => ?_) <;> (try simp only [h]))
    | (refine pt_if (fun h => ?_) (fun h => ?_) <;> (try simp only [h]))
    | (refine cd_if (fun h => ?_) (fun h => ?_) <;> (try simp only [h]))
    | (apply cg_tp
       case hl => rfl
       case ha => (simp only [List.map_cons, List.map_nil, prepV, prepC, idx, hpL', lookR, Nat.reduceEqDiff, if_true, if_false]; rfl)
       case hs => rfl
       case h => (first | exact h1 .. | exact rin_spec ..))
    | (apply cg_any
       case hl => rfl
       case ha => (intro hb; simp only [List.map_cons, List.map_nil, cnd, hb, if_true, prepV, prepC, idx, hpL', lookR, Nat.reduceEqDiff, if_false]; rfl)
       case hs => (intro hb; simp only [cnd, hb, if_true]; rfl)
       case h => (first | exact h1 .. | exact rin_spec ..))
    | (apply cl_plain
       case hs => rfl
       case ha => (simp only [List.map_cons, List.map_nil, prepV, prepC, idx, hpL', lookR, Nat.reduceEqDiff, if_true, if_false]; rfl)
       case h => (first | exact h1 .. | exact rin_spec ..))
    | (apply cl_lend
       case hr => (simp only [List.map_cons, List.map_nil, hpL', lookR, Nat.reduceEqDiff, if_true, if_false]; first | exact map1 _ | exact map2 _ _ | exact map3 _ _ _)
       case ha => (simp only [List.map_cons, List.map_nil, prepV, prepC, idx, hpL', lookR, Nat.reduceEqDiff, if_true, if_false]; rfl)
       case hs => rfl
       case hn => decide
       case h => (first | exact h1 .. | exact rin_spec ..)
       case hf => (simp only [List.forall_mem_cons, List.not_mem_nil, false_implies, implies_true, and_true, true_and, flat_cons, flat_nil, flat_ints, flat_bools, flat_app, Cell.refs, and_self, eq_self_iff_true, List.append_nil])
       case hl => (simp only [List.length_cons, List.length_nil]; decide))
    | (apply cl_lendx
       case ha => (simp only [List.map_cons, List.map_nil, prepV, prepC, idx, hpL', lookR, Nat.reduceEqDiff, if_true, if_false]; rfl)
       case hr => (simp only [lentRows, List.map_cons, List.map_nil, hpL', lookR, Row.ren, Cell.ren, idx, Ints_ren, Nat.reduceEqDiff, if_true, if_false, ↓reduceIte, reduceCtorEq]; rfl)
       case hs => rfl
       case hn => decide
       case h => (first | exact h1 .. | exact rin_spec ..)
       case hf => (intro r hr; simp only [List.mem_cons, List.not_mem_nil, or_false] at hr; rcases hr with rfl | rfl <;> (refine ⟨_, rfl, ?_⟩; first | exact fun c hc q hq => absurd hq (Ints_refs0 _ _ c hc) | (simp [Cell.refs]; done)))
       case hl => (simp only [List.length_cons, List.length_nil]; decide))
    | (apply cl_show
       case ha => (simp only [List.map_cons, List.map_nil, prepV, prepC, idx, hpL', lookR, Nat.reduceEqDiff, if_true, if_false]; rfl)
       case hs => ((simp [snaps, SV.refs, Cell.refs, idx, hpL', lookR]) <;> (repeat' apply And.intro) <;> exact Ints_isG _)
       case h => (first | exact h1 .. | exact rin_spec ..)
       case hg => ((simp [SV.noG, SV.noGL, Cell.noG]) <;> (repeat' apply And.intro) <;> exact Ints_noG _))
    | ((first | refine s1_id ?_ | refine swp_id ?_ | refine sops_id ?_ | refine s2_id ?_); simp only [plc, go_sem, Nat.reduceEqDiff, Nat.reduceAdd, Nat.reduceSub, Nat.reduceMul, Nat.reduceLT, Nat.reduceLeDiff, ↓reduceIte, reduceCtorEq, List.reduceReplicate, Int.cast_ofNat_Int, Int.reduceEq, Int.reduceLT, Int.reduceLE, SV.ren, SV.renL, Cell.ren, Row.ren, renO, bk, back, outUpsFrom, Ints_ren])
    | (apply fs_nil <;> (try simp only [go_sem, resV, resS, SV.ren, SV.renL, Cell.ren, St.tmF, St.hpF, idx, renO, Row.ren, evS, slot, lookR, Nat.reduceEqDiff, ↓reduceIte, reduceCtorEq, if_true, if_false, Option.getD_some, Option.getD_none, List.map_cons, List.map_nil, sLoad, readAt, readNeed, Ints_ren, Ints_length, Ints_getD, and_true, true_and, List.getD_cons_zero, List.getD_cons_succ]) <;> (try rfl)))
  all_goals simp only [Bool.not_eq_true', Bool.not_eq_false', decide_eq_true_eq, decide_eq_false_iff_not, Bool.or_eq_true, Bool.or_eq_false_iff, Bool.and_eq_true] at *
  all_goals simp only [*, if_true, if_false, Bool.true_eq_false, Bool.false_eq_true]
end Go.Proofs.Ytlaplcjenndigaa
