/- Contracts of functions, told of values, on the way to BandwidthDrains. -/
import Derived.Test.YtlaplcjenndigaaTyBa
-- NEWGO
-- PRUNE: cg_ts cg_show cl_use
namespace Go.Proofs.Ytlaplcjenndigaa
set_option linter.unusedVariables false
set_option linter.unusedSimpArgs false
open Go.Proofs.Ytlaplcjenndigaa.Sh
structure Pl where
  g : Int
  q : Int
  b : Int
  s : Int
  l : Int
  c : List Int
  sp : Int
  pe : Int
  th : Int
  em : Bool
abbrev plc (x : Pl) (k : Option Nat) : List Cell := [int x.g, int x.q, int x.b, int x.s, int x.l, .gsl (Ints x.c) 0 x.c.length k, int x.sp, int x.pe, int x.th, bool x.em]
abbrev plt (x : Pl) (k : Option Nat) : SV := .agg (plc x k)
/-- a pool with a list of its own -/
abbrev plo (x : Pl) (r : Nat) (n : Nat) (k : Option Nat) : List Cell := [int x.g, int x.q, int x.b, int x.s, int x.l, .osl r 0 n k, int x.sp, int x.pe, int x.th, bool x.em]
def wi (n a b : Int) : Bool := decide (a ≤ n) && decide (n ≤ b)
theorem wi_iff {n a b : Int} : wi n a b = true ↔ a ≤ n ∧ n ≤ b := by simp [wi]
theorem wi_no {n a b : Int} : wi n a b = false ↔ n < a ∨ b < n := by simp only [wi, Bool.and_eq_false_iff, decide_eq_false_iff_not]; omega
theorem within_spec (n a b : Int) : FnSpec Try.prog 44 [i1 n, i1 a, i1 b] [] (b1 (wi n a b)) [] := by
  refine fnspec_of mixed TT_ok TT_cl ⟨fun _ => false, fun _ => [], 0, fun _ => false, fun _ => false⟩ Try.func44 rfl (by kernel_rfl) rfl 15 rfl [.tmp 6] rfl ?_
  simp only [go_sem, Nat.reduceEqDiff, Nat.reduceAdd, Nat.reduceSub, Nat.reduceMul, Nat.reduceLT, Nat.reduceLeDiff, ↓reduceIte, reduceCtorEq, List.reduceReplicate, Int.cast_ofNat_Int, Int.reduceEq, Int.reduceLT, Int.reduceLE]
  repeat' (first
    | with_reducible refine And.intro ?_ ?_
    | (unfold OKC; kernel_rfl)
    | (apply okc_up <;> (first | ((repeat (first | exact Sub.nil | apply Sub.gfp | apply Sub.same)); done) | kernel_rfl))
    | (unfold EDG; kernel_rfl)
    | (intros; (try simp only [Bool.and_eq_true, Bool.or_eq_true, Bool.not_eq_true', Bool.not_eq_false', Bool.and_eq_false_iff, Bool.or_eq_false_iff, decide_eq_true_eq, decide_eq_false_iff_not] at *); omega)
    | (refine gt_if (fun h => ?_) (fun h => ?_) <;> (try simp only [h]))
    | (refine pt_if (fun h => ?_) (fun h => ?_) <;> (try simp only [h]))
    | (refine cd_if (fun h => ?_) (fun h => ?_) <;> (try simp only [h]))
    | (apply cg_tp
       case hl => rfl
       case ha => (simp only [List.map_cons, List.map_nil, prepV, prepC, idx, hpL', lookR, Nat.reduceEqDiff, if_true, if_false]; rfl)
       case hs => rfl
       case h => (first | fail))
    | (apply cg_any
       case hl => rfl
       case ha => (intro hb; simp only [List.map_cons, List.map_nil, cnd, hb, if_true, prepV, prepC, idx, hpL', lookR, Nat.reduceEqDiff, if_false]; rfl)
       case hs => (intro hb; simp only [cnd, hb, if_true]; rfl)
       case h => (first | fail))
    | (apply cl_plain
       case hs => rfl
       case ha => (simp only [List.map_cons, List.map_nil, prepV, prepC, idx, hpL', lookR, Nat.reduceEqDiff, if_true, if_false]; rfl)
       case h => (first | fail))
    | (apply cl_lend
       case hr => (simp only [List.map_cons, List.map_nil, hpL', lookR, Nat.reduceEqDiff, if_true, if_false]; first | exact map1 _ | exact map2 _ _ | exact map3 _ _ _)
       case ha => (simp only [List.map_cons, List.map_nil, prepV, prepC, idx, hpL', lookR, Nat.reduceEqDiff, if_true, if_false]; rfl)
       case hs => rfl
       case hn => decide
       case h => (first | fail)
       case hf => (simp only [List.forall_mem_cons, List.not_mem_nil, false_implies, implies_true, and_true, true_and, flat_cons, flat_nil, flat_ints, flat_bools, flat_app, Cell.refs, and_self, eq_self_iff_true, List.append_nil])
       case hl => (simp only [List.length_cons, List.length_nil]; decide))
    | (apply cl_lendx
       case ha => (simp only [List.map_cons, List.map_nil, prepV, prepC, idx, hpL', lookR, Nat.reduceEqDiff, if_true, if_false]; rfl)
       case hr => (simp only [lentRows, List.map_cons, List.map_nil, hpL', lookR, Row.ren, Cell.ren, idx, Ints_ren, Nat.reduceEqDiff, if_true, if_false, ↓reduceIte, reduceCtorEq]; rfl)
       case hs => rfl
       case hn => decide
       case h => (first | fail)
       case hf => (intro r hr; simp only [List.mem_cons, List.not_mem_nil, or_false] at hr; rcases hr with rfl | rfl <;> (refine ⟨_, rfl, ?_⟩; first | exact fun c hc q hq => absurd hq (Ints_refs0 _ _ c hc) | (simp [Cell.refs]; done)))
       case hl => (simp only [List.length_cons, List.length_nil]; decide))
    | (apply cl_show
       case ha => (simp only [List.map_cons, List.map_nil, prepV, prepC, idx, hpL', lookR, Nat.reduceEqDiff, if_true, if_false]; rfl)
       case hs => ((simp [snaps, SV.refs, Cell.refs, idx, hpL', lookR]) <;> (repeat' apply And.intro) <;> exact Ints_isG _)
       case h => (first | fail)
       case hg => ((simp [SV.noG, SV.noGL, Cell.noG]) <;> (repeat' apply And.intro) <;> exact Ints_noG _))
    | ((first | refine s1_id ?_ | refine swp_id ?_ | refine sops_id ?_ | refine s2_id ?_); simp only [go_sem, Nat.reduceEqDiff, Nat.reduceAdd, Nat.reduceSub, Nat.reduceMul, Nat.reduceLT, Nat.reduceLeDiff, ↓reduceIte, reduceCtorEq, List.reduceReplicate, Int.cast_ofNat_Int, Int.reduceEq, Int.reduceLT, Int.reduceLE, SV.ren, SV.renL, Cell.ren, Row.ren, renO, bk, back, outUpsFrom, Ints_ren])
    | (apply fs_nil <;> (try simp only [go_sem, resV, resS, SV.ren, SV.renL, Cell.ren, St.tmF, St.hpF, idx, renO, Row.ren, evS, slot, lookR, Nat.reduceEqDiff, ↓reduceIte, reduceCtorEq, if_true, if_false, Option.getD_some, Option.getD_none, List.map_cons, List.map_nil, sLoad, readAt, readNeed, Ints_ren, Ints_length, Ints_getD, and_true, true_and, List.getD_cons_zero, List.getD_cons_succ]) <;> (try rfl)))
theorem rin_spec (n a b : Int) : FnSpec Try.prog 48 [i1 n, i1 a, i1 b] [] (b1 (wi n a b)) [] := by
  refine fnspec_of mixed TT_ok TT_cl ⟨fun _ => false, fun _ => [], 0, fun _ => false, fun _ => false⟩ Try.func48 rfl (by kernel_rfl) rfl 15 rfl [.tmp 6] rfl ?_
  simp only [go_sem, Nat.reduceEqDiff, Nat.reduceAdd, Nat.reduceSub, Nat.reduceMul, Nat.reduceLT, Nat.reduceLeDiff, ↓reduceIte, reduceCtorEq, List.reduceReplicate, Int.cast_ofNat_Int, Int.reduceEq, Int.reduceLT, Int.reduceLE]
  repeat' (first
    | with_reducible refine And.intro ?_ ?_
    | (unfold OKC; kernel_rfl)
    | (apply okc_up <;> (first | ((repeat (first | exact Sub.nil | apply Sub.gfp | apply Sub.same)); done) | kernel_rfl))
    | (unfold EDG; kernel_rfl)
    | (intros; (try simp only [Bool.and_eq_true, Bool.or_eq_true, Bool.not_eq_true', Bool.not_eq_false', Bool.and_eq_false_iff, Bool.or_eq_false_iff, decide_eq_true_eq, decide_eq_false_iff_not] at *); omega)
    | (refine gt_if (fun h => ?_) (fun h => ?_) <;> (try simp only [h]))
    | (refine pt_if (fun h => ?_) (fun h => ?_) <;> (try simp only [h]))
    | (refine cd_if (fun h => ?_) (fun h => ?_) <;> (try simp only [h]))
    | (apply cg_tp
       case hl => rfl
       case ha => (simp only [List.map_cons, List.map_nil, prepV, prepC, idx, hpL', lookR, Nat.reduceEqDiff, if_true, if_false]; rfl)
       case hs => rfl
       case h => (first | fail))
    | (apply cg_any
       case hl => rfl
       case ha => (intro hb; simp only [List.map_cons, List.map_nil, cnd, hb, if_true, prepV, prepC, idx, hpL', lookR, Nat.reduceEqDiff, if_false]; rfl)
       case hs => (intro hb; simp only [cnd, hb, if_true]; rfl)
       case h => (first | fail))
    | (apply cl_plain
       case hs => rfl
       case ha => (simp only [List.map_cons, List.map_nil, prepV, prepC, idx, hpL', lookR, Nat.reduceEqDiff, if_true, if_false]; rfl)
       case h => (first | fail))
    | (apply cl_lend
       case hr => (simp only [List.map_cons, List.map_nil, hpL', lookR, Nat.reduceEqDiff, if_true, if_false]; first | exact map1 _ | exact map2 _ _ | exact map3 _ _ _)
       case ha => (simp only [List.map_cons, List.map_nil, prepV, prepC, idx, hpL', lookR, Nat.reduceEqDiff, if_true, if_false]; rfl)
       case hs => rfl
       case hn => decide
       case h => (first | fail)
       case hf => (simp only [List.forall_mem_cons, List.not_mem_nil, false_implies, implies_true, and_true, true_and, flat_cons, flat_nil, flat_ints, flat_bools, flat_app, Cell.refs, and_self, eq_self_iff_true, List.append_nil])
       case hl => (simp only [List.length_cons, List.length_nil]; decide))
    | (apply cl_lendx
       case ha => (simp only [List.map_cons, List.map_nil, prepV, prepC, idx, hpL', lookR, Nat.reduceEqDiff, if_true, if_false]; rfl)
       case hr => (simp only [lentRows, List.map_cons, List.map_nil, hpL', lookR, Row.ren, Cell.ren, idx, Ints_ren, Nat.reduceEqDiff, if_true, if_false, ↓reduceIte, reduceCtorEq]; rfl)
       case hs => rfl
       case hn => decide
       case h => (first | fail)
       case hf => (intro r hr; simp only [List.mem_cons, List.not_mem_nil, or_false] at hr; rcases hr with rfl | rfl <;> (refine ⟨_, rfl, ?_⟩; first | exact fun c hc q hq => absurd hq (Ints_refs0 _ _ c hc) | (simp [Cell.refs]; done)))
       case hl => (simp only [List.length_cons, List.length_nil]; decide))
    | (apply cl_show
       case ha => (simp only [List.map_cons, List.map_nil, prepV, prepC, idx, hpL', lookR, Nat.reduceEqDiff, if_true, if_false]; rfl)
       case hs => ((simp [snaps, SV.refs, Cell.refs, idx, hpL', lookR]) <;> (repeat' apply And.intro) <;> exact Ints_isG _)
       case h => (first | fail)
       case hg => ((simp [SV.noG, SV.noGL, Cell.noG]) <;> (repeat' apply And.intro) <;> exact Ints_noG _))
    | ((first | refine s1_id ?_ | refine swp_id ?_ | refine sops_id ?_ | refine s2_id ?_); simp only [go_sem, Nat.reduceEqDiff, Nat.reduceAdd, Nat.reduceSub, Nat.reduceMul, Nat.reduceLT, Nat.reduceLeDiff, ↓reduceIte, reduceCtorEq, List.reduceReplicate, Int.cast_ofNat_Int, Int.reduceEq, Int.reduceLT, Int.reduceLE, SV.ren, SV.renL, Cell.ren, Row.ren, renO, bk, back, outUpsFrom, Ints_ren])
    | (apply fs_nil <;> (try simp only [go_sem, resV, resS, SV.ren, SV.renL, Cell.ren, St.tmF, St.hpF, idx, renO, Row.ren, evS, slot, lookR, Nat.reduceEqDiff, ↓reduceIte, reduceCtorEq, if_true, if_false, Option.getD_some, Option.getD_none, List.map_cons, List.map_nil, sLoad, readAt, readNeed, Ints_ren, Ints_length, Ints_getD, and_true, true_and, List.getD_cons_zero, List.getD_cons_succ]) <;> (try rfl)))
def lim (x : Pl) : Bool := !decide (x.q = 4611686018427387904)
theorem limited_spec (x : Pl) (k : Option Nat) : FnSpec Try.prog 14 [plt x k] [] (b1 (lim x)) [] := by
  obtain ⟨g, q, b, s, l, c, sp, pe, th, em⟩ := x
  refine fnspec_of mixed TT_ok TT_cl ⟨fun _ => false, fun _ => [], 0, fun _ => false, fun _ => false⟩ Try.func14 rfl (by kernel_rfl) rfl 6 rfl [.tmp 2] rfl ?_
  simp only [go_sem, Nat.reduceEqDiff, Nat.reduceAdd, Nat.reduceSub, Nat.reduceMul, Nat.reduceLT, Nat.reduceLeDiff, ↓reduceIte, reduceCtorEq, List.reduceReplicate, Int.cast_ofNat_Int, Int.reduceEq, Int.reduceLT, Int.reduceLE, plc]
  repeat' (first
    | with_reducible refine And.intro ?_ ?_
    | (unfold OKC; kernel_rfl)
    | (apply okc_up <;> (first | ((repeat (first | exact Sub.nil | apply Sub.gfp | apply Sub.same)); done) | kernel_rfl))
    | (unfold EDG; kernel_rfl)
    | (intros; (try simp only [Bool.and_eq_true, Bool.or_eq_true, Bool.not_eq_true', Bool.not_eq_false', Bool.and_eq_false_iff, Bool.or_eq_false_iff, decide_eq_true_eq, decide_eq_false_iff_not] at *); omega)
    | (refine gt_if (fun h => ?_) (fun h => ?_) <;> (try simp only [h]))
    | (refine pt_if (fun h => ?_) (fun h => ?_) <;> (try simp only [h]))
    | (refine cd_if (fun h => ?_) (fun h => ?_) <;> (try simp only [h]))
    | (apply cg_tp
       case hl => rfl
       case ha => (simp only [List.map_cons, List.map_nil, prepV, prepC, idx, hpL', lookR, Nat.reduceEqDiff, if_true, if_false]; rfl)
       case hs => rfl
       case h => (first | fail))
    | (apply cg_any
       case hl => rfl
       case ha => (intro hb; simp only [List.map_cons, List.map_nil, cnd, hb, if_true, prepV, prepC, idx, hpL', lookR, Nat.reduceEqDiff, if_false]; rfl)
       case hs => (intro hb; simp only [cnd, hb, if_true]; rfl)
       case h => (first | fail))
    | (apply cl_plain
       case hs => rfl
       case ha => (simp only [List.map_cons, List.map_nil, prepV, prepC, idx, hpL', lookR, Nat.reduceEqDiff, if_true, if_false]; rfl)
       case h => (first | fail))
    | (apply cl_lend
       case hr => (simp only [List.map_cons, List.map_nil, hpL', lookR, Nat.reduceEqDiff, if_true, if_false]; first | exact map1 _ | exact map2 _ _ | exact map3 _ _ _)
       case ha => (simp only [List.map_cons, List.map_nil, prepV, prepC, idx, hpL', lookR, Nat.reduceEqDiff, if_true, if_false]; rfl)
       case hs => rfl
       case hn => decide
       case h => (first | fail)
       case hf => (simp only [List.forall_mem_cons, List.not_mem_nil, false_implies, implies_true, and_true, true_and, flat_cons, flat_nil, flat_ints, flat_bools, flat_app, Cell.refs, and_self, eq_self_iff_true, List.append_nil])
       case hl => (simp only [List.length_cons, List.length_nil]; decide))
    | (apply cl_lendx
       case ha => (simp only [List.map_cons, List.map_nil, prepV, prepC, idx, hpL', lookR, Nat.reduceEqDiff, if_true, if_false]; rfl)
       case hr => (simp only [lentRows, List.map_cons, List.map_nil, hpL', lookR, Row.ren, Cell.ren, idx, Ints_ren, Nat.reduceEqDiff, if_true, if_false, ↓reduceIte, reduceCtorEq]; rfl)
       case hs => rfl
       case hn => decide
       case h => (first | fail)
       case hf => (intro r hr; simp only [List.mem_cons, List.not_mem_nil, or_false] at hr; rcases hr with rfl | rfl <;> (refine ⟨_, rfl, ?_⟩; first | exact fun c hc q hq => absurd hq (Ints_refs0 _ _ c hc) | (simp [Cell.refs]; done)))
       case hl => (simp only [List.length_cons, List.length_nil]; decide))
    | (apply cl_show
       case ha => (simp only [List.map_cons, List.map_nil, prepV, prepC, idx, hpL', lookR, Nat.reduceEqDiff, if_true, if_false]; rfl)
       case hs => ((simp [snaps, SV.refs, Cell.refs, idx, hpL', lookR]) <;> (repeat' apply And.intro) <;> exact Ints_isG _)
       case h => (first | fail)
       case hg => ((simp [SV.noG, SV.noGL, Cell.noG]) <;> (repeat' apply And.intro) <;> exact Ints_noG _))
    | ((first | refine s1_id ?_ | refine swp_id ?_ | refine sops_id ?_ | refine s2_id ?_); simp only [plc, go_sem, Nat.reduceEqDiff, Nat.reduceAdd, Nat.reduceSub, Nat.reduceMul, Nat.reduceLT, Nat.reduceLeDiff, ↓reduceIte, reduceCtorEq, List.reduceReplicate, Int.cast_ofNat_Int, Int.reduceEq, Int.reduceLT, Int.reduceLE, SV.ren, SV.renL, Cell.ren, Row.ren, renO, bk, back, outUpsFrom, Ints_ren])
    | (apply fs_nil <;> (try simp only [go_sem, resV, resS, SV.ren, SV.renL, Cell.ren, St.tmF, St.hpF, idx, renO, Row.ren, evS, slot, lookR, Nat.reduceEqDiff, ↓reduceIte, reduceCtorEq, if_true, if_false, Option.getD_some, Option.getD_none, List.map_cons, List.map_nil, sLoad, readAt, readNeed, Ints_ren, Ints_length, Ints_getD, and_true, true_and, List.getD_cons_zero, List.getD_cons_succ]) <;> (try rfl)))
theorem rlimited_spec (x : Pl) (k : Option Nat) : FnSpec Try.prog 17 [plt x k] [] (b1 (lim x)) [] := by
  obtain ⟨g, q, b, s, l, c, sp, pe, th, em⟩ := x
  refine fnspec_of mixed TT_ok TT_cl ⟨fun _ => false, fun _ => [], 0, fun _ => false, fun _ => false⟩ Try.func17 rfl (by kernel_rfl) rfl 6 rfl [.tmp 2] rfl ?_
  simp only [go_sem, Nat.reduceEqDiff, Nat.reduceAdd, Nat.reduceSub, Nat.reduceMul, Nat.reduceLT, Nat.reduceLeDiff, ↓reduceIte, reduceCtorEq, List.reduceReplicate, Int.cast_ofNat_Int, Int.reduceEq, Int.reduceLT, Int.reduceLE, plc]
  repeat' (first
    | with_reducible refine And.intro ?_ ?_
    | (unfold OKC; kernel_rfl)
    | (apply okc_up <;> (first | ((repeat (first | exact Sub.nil | apply Sub.gfp | apply Sub.same)); done) | kernel_rfl))
    | (unfold EDG; kernel_rfl)
    | (intros; (try simp only [Bool.and_eq_true, Bool.or_eq_true, Bool.not_eq_true', Bool.not_eq_false', Bool.and_eq_false_iff, Bool.or_eq_false_iff, decide_eq_true_eq, decide_eq_false_iff_not] at *); omega)
    | (refine gt_if (fun h => ?_) (fun h => ?_) <;> (try simp only [h]))
    | (refine pt_if (fun h => ?_) (fun h => ?_) <;> (try simp only [h]))
    | (refine cd_if (fun h => ?_) (fun h => ?_) <;> (try simp only [h]))
    | (apply cg_tp
       case hl => rfl
       case ha => (simp only [List.map_cons, List.map_nil, prepV, prepC, idx, hpL', lookR, Nat.reduceEqDiff, if_true, if_false]; rfl)
       case hs => rfl
       case h => (first | fail))
    | (apply cg_any
       case hl => rfl
       case ha => (intro hb; simp only [List.map_cons, List.map_nil, cnd, hb, if_true, prepV, prepC, idx, hpL', lookR, Nat.reduceEqDiff, if_false]; rfl)
       case hs => (intro hb; simp only [cnd, hb, if_true]; rfl)
       case h => (first | fail))
    | (apply cl_plain
       case hs => rfl
       case ha => (simp only [List.map_cons, List.map_nil, prepV, prepC, idx, hpL', lookR, Nat.reduceEqDiff, if_true, if_false]; rfl)
       case h => (first | fail))
    | (apply cl_lend
       case hr => (simp only [List.map_cons, List.map_nil, hpL', lookR, Nat.reduceEqDiff, if_true, if_false]; first | exact map1 _ | exact map2 _ _ | exact map3 _ _ _)
       case ha => (simp only [List.map_cons, List.map_nil, prepV, prepC, idx, hpL', lookR, Nat.reduceEqDiff, if_true, if_false]; rfl)
       case hs => rfl
       case hn => decide
       case h => (first | fail)
       case hf => (simp only [List.forall_mem_cons, List.not_mem_nil, false_implies, implies_true, and_true, true_and, flat_cons, flat_nil, flat_ints, flat_bools, flat_app, Cell.refs, and_self, eq_self_iff_true, List.append_nil])
       case hl => (simp only [List.length_cons, List.length_nil]; decide))
    | (apply cl_lendx
       case ha => (simp only [List.map_cons, List.map_nil, prepV, prepC, idx, hpL', lookR, Nat.reduceEqDiff, if_true, if_false]; rfl)
       case hr => (simp only [lentRows, List.map_cons, List.map_nil, hpL', lookR, Row.ren, Cell.ren, idx, Ints_ren, Nat.reduceEqDiff, if_true, if_false, ↓reduceIte, reduceCtorEq]; rfl)
       case hs => rfl
       case hn => decide
       case h => (first | fail)
       case hf => (intro r hr; simp only [List.mem_cons, List.not_mem_nil, or_false] at hr; rcases hr with rfl | rfl <;> (refine ⟨_, rfl, ?_⟩; first | exact fun c hc q hq => absurd hq (Ints_refs0 _ _ c hc) | (simp [Cell.refs]; done)))
       case hl => (simp only [List.length_cons, List.length_nil]; decide))
    | (apply cl_show
       case ha => (simp only [List.map_cons, List.map_nil, prepV, prepC, idx, hpL', lookR, Nat.reduceEqDiff, if_true, if_false]; rfl)
       case hs => ((simp [snaps, SV.refs, Cell.refs, idx, hpL', lookR]) <;> (repeat' apply And.intro) <;> exact Ints_isG _)
       case h => (first | fail)
       case hg => ((simp [SV.noG, SV.noGL, Cell.noG]) <;> (repeat' apply And.intro) <;> exact Ints_noG _))
    | ((first | refine s1_id ?_ | refine swp_id ?_ | refine sops_id ?_ | refine s2_id ?_); simp only [plc, go_sem, Nat.reduceEqDiff, Nat.reduceAdd, Nat.reduceSub, Nat.reduceMul, Nat.reduceLT, Nat.reduceLeDiff, ↓reduceIte, reduceCtorEq, List.reduceReplicate, Int.cast_ofNat_Int, Int.reduceEq, Int.reduceLT, Int.reduceLE, SV.ren, SV.renL, Cell.ren, Row.ren, renO, bk, back, outUpsFrom, Ints_ren])
    | (apply fs_nil <;> (try simp only [go_sem, resV, resS, SV.ren, SV.renL, Cell.ren, St.tmF, St.hpF, idx, renO, Row.ren, evS, slot, lookR, Nat.reduceEqDiff, ↓reduceIte, reduceCtorEq, if_true, if_false, Option.getD_some, Option.getD_none, List.map_cons, List.map_nil, sLoad, readAt, readNeed, Ints_ren, Ints_length, Ints_getD, and_true, true_and, List.getD_cons_zero, List.getD_cons_succ]) <;> (try rfl)))
def stl (q b : Int) : Bool := if q = 4611686018427387904 then decide (b = 0) else wi q 1 1000000 && wi b 0 q
theorem settable_spec (q b : Int) : FnSpec Try.prog 45 [i1 q, i1 b] [] (b1 (stl q b)) [] := by
  refine fnspec_of mixed TT_ok TT_cl ⟨fun _ => false, fun _ => [], 0, fun _ => false, fun _ => false⟩ Try.func45 rfl (by kernel_rfl) rfl 16 rfl [.tmp 4] rfl ?_
  simp only [go_sem, Nat.reduceEqDiff, Nat.reduceAdd, Nat.reduceSub, Nat.reduceMul, Nat.reduceLT, Nat.reduceLeDiff, ↓reduceIte, reduceCtorEq, List.reduceReplicate, Int.cast_ofNat_Int, Int.reduceEq, Int.reduceLT, Int.reduceLE]
  repeat' (first
    | with_reducible refine And.intro ?_ ?_
    | (unfold OKC; kernel_rfl)
    | (apply okc_up <;> (first | ((repeat (first | exact Sub.nil | apply Sub.gfp | apply Sub.same)); done) | kernel_rfl))
    | (unfold EDG; kernel_rfl)
    | (intros; (try simp only [Bool.and_eq_true, Bool.or_eq_true, Bool.not_eq_true', Bool.not_eq_false', Bool.and_eq_false_iff, Bool.or_eq_false_iff, decide_eq_true_eq, decide_eq_false_iff_not] at *); omega)
    | (refine gt_if (fun h => ?_) (fun h => ?_) <;> (try simp only [h]))
    | (refine pt_if (fun h => ?_) (fun h => ?_) <;> (try simp only [h]))
    | (refine cd_if (fun h => ?_) (fun h => ?_) <;> (try simp only [h]))
    | (apply cg_tp
       case hl => rfl
       case ha => (simp only [List.map_cons, List.map_nil, prepV, prepC, idx, hpL', lookR, Nat.reduceEqDiff, if_true, if_false]; rfl)
       case hs => rfl
       case h => (first | exact within_spec ..))
    | (apply cg_any
       case hl => rfl
       case ha => (intro hb; simp only [List.map_cons, List.map_nil, cnd, hb, if_true, prepV, prepC, idx, hpL', lookR, Nat.reduceEqDiff, if_false]; rfl)
       case hs => (intro hb; simp only [cnd, hb, if_true]; rfl)
       case h => (first | exact within_spec ..))
    | (apply cl_plain
       case hs => rfl
       case ha => (simp only [List.map_cons, List.map_nil, prepV, prepC, idx, hpL', lookR, Nat.reduceEqDiff, if_true, if_false]; rfl)
       case h => (first | exact within_spec ..))
    | (apply cl_lend
       case hr => (simp only [List.map_cons, List.map_nil, hpL', lookR, Nat.reduceEqDiff, if_true, if_false]; first | exact map1 _ | exact map2 _ _ | exact map3 _ _ _)
       case ha => (simp only [List.map_cons, List.map_nil, prepV, prepC, idx, hpL', lookR, Nat.reduceEqDiff, if_true, if_false]; rfl)
       case hs => rfl
       case hn => decide
       case h => (first | exact within_spec ..)
       case hf => (simp only [List.forall_mem_cons, List.not_mem_nil, false_implies, implies_true, and_true, true_and, flat_cons, flat_nil, flat_ints, flat_bools, flat_app, Cell.refs, and_self, eq_self_iff_true, List.append_nil])
       case hl => (simp only [List.length_cons, List.length_nil]; decide))
    | (apply cl_lendx
       case ha => (simp only [List.map_cons, List.map_nil, prepV, prepC, idx, hpL', lookR, Nat.reduceEqDiff, if_true, if_false]; rfl)
       case hr => (simp only [lentRows, List.map_cons, List.map_nil, hpL', lookR, Row.ren, Cell.ren, idx, Ints_ren, Nat.reduceEqDiff, if_true, if_false, ↓reduceIte, reduceCtorEq]; rfl)
       case hs => rfl
       case hn => decide
       case h => (first | exact within_spec ..)
       case hf => (intro r hr; simp only [List.mem_cons, List.not_mem_nil, or_false] at hr; rcases hr with rfl | rfl <;> (refine ⟨_, rfl, ?_⟩; first | exact fun c hc q hq => absurd hq (Ints_refs0 _ _ c hc) | (simp [Cell.refs]; done)))
       case hl => (simp only [List.length_cons, List.length_nil]; decide))
    | (apply cl_show
       case ha => (simp only [List.map_cons, List.map_nil, prepV, prepC, idx, hpL', lookR, Nat.reduceEqDiff, if_true, if_false]; rfl)
       case hs => ((simp [snaps, SV.refs, Cell.refs, idx, hpL', lookR]) <;> (repeat' apply And.intro) <;> exact Ints_isG _)
       case h => (first | exact within_spec ..)
       case hg => ((simp [SV.noG, SV.noGL, Cell.noG]) <;> (repeat' apply And.intro) <;> exact Ints_noG _))
    | ((first | refine s1_id ?_ | refine swp_id ?_ | refine sops_id ?_ | refine s2_id ?_); simp only [go_sem, Nat.reduceEqDiff, Nat.reduceAdd, Nat.reduceSub, Nat.reduceMul, Nat.reduceLT, Nat.reduceLeDiff, ↓reduceIte, reduceCtorEq, List.reduceReplicate, Int.cast_ofNat_Int, Int.reduceEq, Int.reduceLT, Int.reduceLE, SV.ren, SV.renL, Cell.ren, Row.ren, renO, bk, back, outUpsFrom, Ints_ren])
    | (apply fs_nil <;> (try simp only [go_sem, resV, resS, SV.ren, SV.renL, Cell.ren, St.tmF, St.hpF, idx, renO, Row.ren, evS, slot, lookR, Nat.reduceEqDiff, ↓reduceIte, reduceCtorEq, if_true, if_false, Option.getD_some, Option.getD_none, List.map_cons, List.map_nil, sLoad, readAt, readNeed, Ints_ren, Ints_length, Ints_getD, and_true, true_and, List.getD_cons_zero, List.getD_cons_succ]) <;> (try rfl)))
  all_goals
    simp only [Bool.not_eq_true', Bool.not_eq_false', decide_eq_true_eq, decide_eq_false_iff_not, Bool.or_eq_true, Bool.or_eq_false_iff, Bool.and_eq_true] at *
    simp only [stl, *, if_true, if_false]
def mst (x : Pl) : Int := if lim x = true then x.q + x.b else 0
theorem stl_iff {q b : Int} : stl q b = true ↔ (q = 4611686018427387904 ∧ b = 0) ∨ (q ≠ 4611686018427387904 ∧ 1 ≤ q ∧ q ≤ 1000000 ∧ 0 ≤ b ∧ b ≤ q) := by
  unfold stl
  split
  · simp only [decide_eq_true_eq]; omega
  · simp only [wi, Bool.and_eq_true, decide_eq_true_eq]; omega
theorem mst_rng {x : Pl} (h : stl x.q x.b = true) : 0 ≤ mst x ∧ mst x ≤ 2000000 := by
  rw [stl_iff] at h
  simp only [mst, lim, Bool.not_eq_true', decide_eq_false_iff_not]
  split <;> omega
theorem most_spec (x : Pl) (k : Option Nat) (h : stl x.q x.b = true) : FnSpec Try.prog 39 [plt x k] [] (i1 (mst x)) [] := by
  have hm := stl_iff.1 h
  obtain ⟨g, q, b, s, l, c, sp, pe, th, em⟩ := x
  simp only at hm
  refine fnspec_of mixed TT_ok TT_cl ⟨fun _ => false, fun _ => [], 0, fun _ => false, fun _ => false⟩ Try.func39 rfl (by kernel_rfl) rfl 11 rfl [.tmp 2] rfl ?_
  simp only [go_sem, Nat.reduceEqDiff, Nat.reduceAdd, Nat.reduceSub, Nat.reduceMul, Nat.reduceLT, Nat.reduceLeDiff, ↓reduceIte, reduceCtorEq, List.reduceReplicate, Int.cast_ofNat_Int, Int.reduceEq, Int.reduceLT, Int.reduceLE, plc]
  repeat' (first
    | with_reducible refine And.intro ?_ ?_
    | (unfold OKC; kernel_rfl)
    | (apply okc_up <;> (first | ((repeat (first | exact Sub.nil | apply Sub.gfp | apply Sub.same)); done) | kernel_rfl))
    | (unfold EDG; kernel_rfl)
    | (intros; (try simp only [Bool.and_eq_true, Bool.or_eq_true, Bool.not_eq_true', Bool.not_eq_false', Bool.and_eq_false_iff, Bool.or_eq_false_iff, decide_eq_true_eq, decide_eq_false_iff_not] at *); omega)
    | (refine gt_if (fun h => ?_) (fun h => ?_) <;> (try simp only [h]))
    | (refine pt_if (fun h => ?_) (fun h => ?_) <;> (try simp only [h]))
    | (refine cd_if (fun h => ?_) (fun h => ?_) <;> (try simp only [h]))
    | (apply cg_tp
       case hl => rfl
       case ha => (simp only [List.map_cons, List.map_nil, prepV, prepC, idx, hpL', lookR, Nat.reduceEqDiff, if_true, if_false]; rfl)
       case hs => rfl
       case h => (first | exact limited_spec (.mk ..) _))
    | (apply cg_any
       case hl => rfl
       case ha => (intro hb; simp only [List.map_cons, List.map_nil, cnd, hb, if_true, prepV, prepC, idx, hpL', lookR, Nat.reduceEqDiff, if_false]; rfl)
       case hs => (intro hb; simp only [cnd, hb, if_true]; rfl)
       case h => (first | exact limited_spec (.mk ..) _))
    | (apply cl_plain
       case hs => rfl
       case ha => (simp only [List.map_cons, List.map_nil, prepV, prepC, idx, hpL', lookR, Nat.reduceEqDiff, if_true, if_false]; rfl)
       case h => (first | exact limited_spec (.mk ..) _))
    | (apply cl_lend
       case hr => (simp only [List.map_cons, List.map_nil, hpL', lookR, Nat.reduceEqDiff, if_true, if_false]; first | exact map1 _ | exact map2 _ _ | exact map3 _ _ _)
       case ha => (simp only [List.map_cons, List.map_nil, prepV, prepC, idx, hpL', lookR, Nat.reduceEqDiff, if_true, if_false]; rfl)
       case hs => rfl
       case hn => decide
       case h => (first | exact limited_spec (.mk ..) _)
       case hf => (simp only [List.forall_mem_cons, List.not_mem_nil, false_implies, implies_true, and_true, true_and, flat_cons, flat_nil, flat_ints, flat_bools, flat_app, Cell.refs, and_self, eq_self_iff_true, List.append_nil])
       case hl => (simp only [List.length_cons, List.length_nil]; decide))
    | (apply cl_lendx
       case ha => (simp only [List.map_cons, List.map_nil, prepV, prepC, idx, hpL', lookR, Nat.reduceEqDiff, if_true, if_false]; rfl)
       case hr => (simp only [lentRows, List.map_cons, List.map_nil, hpL', lookR, Row.ren, Cell.ren, idx, Ints_ren, Nat.reduceEqDiff, if_true, if_false, ↓reduceIte, reduceCtorEq]; rfl)
       case hs => rfl
       case hn => decide
       case h => (first | exact limited_spec (.mk ..) _)
       case hf => (intro r hr; simp only [List.mem_cons, List.not_mem_nil, or_false] at hr; rcases hr with rfl | rfl <;> (refine ⟨_, rfl, ?_⟩; first | exact fun c hc q hq => absurd hq (Ints_refs0 _ _ c hc) | (simp [Cell.refs]; done)))
       case hl => (simp only [List.length_cons, List.length_nil]; decide))
    | (apply cl_show
       case ha => (simp only [List.map_cons, List.map_nil, prepV, prepC, idx, hpL', lookR, Nat.reduceEqDiff, if_true, if_false]; rfl)
       case hs => ((simp [snaps, SV.refs, Cell.refs, idx, hpL', lookR]) <;> (repeat' apply And.intro) <;> exact Ints_isG _)
       case h => (first | exact limited_spec (.mk ..) _)
       case hg => ((simp [SV.noG, SV.noGL, Cell.noG]) <;> (repeat' apply And.intro) <;> exact Ints_noG _))
    | ((first | refine s1_id ?_ | refine swp_id ?_ | refine sops_id ?_ | refine s2_id ?_); simp only [plc, go_sem, Nat.reduceEqDiff, Nat.reduceAdd, Nat.reduceSub, Nat.reduceMul, Nat.reduceLT, Nat.reduceLeDiff, ↓reduceIte, reduceCtorEq, List.reduceReplicate, Int.cast_ofNat_Int, Int.reduceEq, Int.reduceLT, Int.reduceLE, SV.ren, SV.renL, Cell.ren, Row.ren, renO, bk, back, outUpsFrom, Ints_ren])
    | (apply fs_nil <;> (try simp only [go_sem, resV, resS, SV.ren, SV.renL, Cell.ren, St.tmF, St.hpF, idx, renO, Row.ren, evS, slot, lookR, Nat.reduceEqDiff, ↓reduceIte, reduceCtorEq, if_true, if_false, Option.getD_some, Option.getD_none, List.map_cons, List.map_nil, sLoad, readAt, readNeed, Ints_ren, Ints_length, Ints_getD, and_true, true_and, List.getD_cons_zero, List.getD_cons_succ]) <;> (try rfl)))
  all_goals
    simp only [lim, Bool.not_eq_true', decide_eq_false_iff_not, decide_eq_true_eq, Bool.not_eq_false', Bool.not_not] at *
    first
    | omega
    | (simp only [mst, lim, Bool.not_eq_true', decide_eq_false_iff_not, *, if_true, if_false, not_true_eq_false, not_false_eq_true]; done)
/-- sums -/
def sumN (c : List Int) : Nat → Int
  | 0 => 0
  | n + 1 => sumN c n + c.getD n 0
theorem sumN_rng {c : List Int} {a b : Int} (h : ∀ y ∈ c, a ≤ y ∧ y ≤ b) : ∀ n, n ≤ c.length → a * n ≤ sumN c n ∧ sumN c n ≤ b * n
  | 0, _ => by simp [sumN]
  | n + 1, hn => by
    have h1 := sumN_rng h n (by omega)
    have hm : c.getD n 0 ∈ c := by
      rw [List.getD_eq_getElem?_getD, List.getElem?_eq_getElem (by omega)]; exact List.getElem_mem _
    have h2 := h _ hm
    have e1 : a * ((n + 1 : Nat) : Int) = a * n + a := by rw [Int.natCast_add, Int.mul_add]; simp
    have e2 : b * ((n + 1 : Nat) : Int) = b * n + b := by rw [Int.natCast_add, Int.mul_add]; simp
    simp only [sumN]; omega
abbrev tot (c : List Int) : Int := sumN c c.length
def hld (x : Pl) : Int := x.l + tot x.c
structure Sml (x : Pl) : Prop where
  len : x.c.length ≤ 1000
  all : ∀ y ∈ x.c, -1000000000 ≤ y ∧ y ≤ 1000000000
  left : -1000000000 ≤ x.l ∧ x.l ≤ 1000000000
theorem sumN_sml {c : List Int} (h1 : c.length ≤ 1000) (h : ∀ y ∈ c, -1000000000 ≤ y ∧ y ≤ 1000000000) (n : Nat) (hn : n ≤ c.length) : -1000000000000 ≤ sumN c n ∧ sumN c n ≤ 1000000000000 := by
  have := sumN_rng h n hn
  omega
theorem sum_spec (c : List Int) (k : Option Nat) (h1 : c.length ≤ 1000) (hsm : ∀ n, n ≤ c.length → -9000000000000000000 ≤ sumN c n ∧ sumN c n ≤ 9000000000000000000) : FnSpec Try.prog 40 [gi c k] [] (i1 (tot c)) [] := by
  refine fnspec_of mixed TT_ok TT_cl ⟨fun _ => false, fun _ => [], 0, fun _ => false, fun _ => false⟩ Try.func40 rfl (by kernel_rfl) rfl 17 rfl [.tmp 2] rfl ?_
  simp only [go_sem, Nat.reduceEqDiff, Nat.reduceAdd, Nat.reduceSub, Nat.reduceMul, Nat.reduceLT, Nat.reduceLeDiff, ↓reduceIte, reduceCtorEq, List.reduceReplicate, Int.cast_ofNat_Int, Int.reduceEq, Int.reduceLT, Int.reduceLE]
  refine w_loop (ι := Nat) (fun i => ⟨[(8, i1 i), (7, i1 c.length), (6, gi c k), (3, i1 (sumN c i))], [], 5⟩) (fun i => i ≤ c.length) (fun i => c.length - i) 0 ?_ (Nat.zero_le _) ?_
  · (refine imp_sub _ _ _ [] (by simp) (by simp) (by simp) (Nat.zero_le _) ?_ rfl (by simp); simp only [List.forall_mem_cons, List.not_mem_nil, false_implies, implies_true, and_true, lk, slot, SV.ren, Cell.ren, Nat.reduceEqDiff, if_true, if_false, ↓reduceIte, reduceCtorEq]); ((repeat' apply And.intro) <;> (first | rfl | trivial))
  intro i hi
  have h2 := hsm i hi
  have h3 : i < c.length → -9000000000000000000 ≤ sumN c i + c.getD i 0 ∧ sumN c i + c.getD i 0 ≤ 9000000000000000000 := fun hlt => hsm (i + 1) hlt
  simp only [go_sem, Nat.reduceEqDiff, Nat.reduceAdd, Nat.reduceSub, Nat.reduceMul, Nat.reduceLT, Nat.reduceLeDiff, ↓reduceIte, reduceCtorEq, List.reduceReplicate, Int.cast_ofNat_Int, Int.reduceEq, Int.reduceLT, Int.reduceLE]
  repeat' (first
    | with_reducible refine And.intro ?_ ?_
    | (unfold OKC; kernel_rfl)
    | (apply okc_up <;> (first | ((repeat (first | exact Sub.nil | apply Sub.gfp | apply Sub.same)); done) | kernel_rfl))
    | (unfold EDG; kernel_rfl)
    | (intros; (try simp only [Bool.and_eq_true, Bool.or_eq_true, Bool.not_eq_true', Bool.not_eq_false', Bool.and_eq_false_iff, Bool.or_eq_false_iff, decide_eq_true_eq, decide_eq_false_iff_not] at *); omega)
    | (refine gt_if (fun h => ?_) (fun h => ?_) <;> (try simp only [h]))
    | (refine pt_if (fun h => ?_) (fun h => ?_) <;> (try simp only [h]))
    | (refine cd_if (fun h => ?_) (fun h => ?_) <;> (try simp only [h]))
    | (apply cg_tp
       case hl => rfl
       case ha => (simp only [List.map_cons, List.map_nil, prepV, prepC, idx, hpL', lookR, Nat.reduceEqDiff, if_true, if_false]; rfl)
       case hs => rfl
       case h => (first | fail))
    | (apply cg_any
       case hl => rfl
       case ha => (intro hb; simp only [List.map_cons, List.map_nil, cnd, hb, if_true, prepV, prepC, idx, hpL', lookR, Nat.reduceEqDiff, if_false]; rfl)
       case hs => (intro hb; simp only [cnd, hb, if_true]; rfl)
       case h => (first | fail))
    | (apply cl_plain
       case hs => rfl
       case ha => (simp only [List.map_cons, List.map_nil, prepV, prepC, idx, hpL', lookR, Nat.reduceEqDiff, if_true, if_false]; rfl)
       case h => (first | fail))
    | (apply cl_lend
       case hr => (simp only [List.map_cons, List.map_nil, hpL', lookR, Nat.reduceEqDiff, if_true, if_false]; first | exact map1 _ | exact map2 _ _ | exact map3 _ _ _)
       case ha => (simp only [List.map_cons, List.map_nil, prepV, prepC, idx, hpL', lookR, Nat.reduceEqDiff, if_true, if_false]; rfl)
       case hs => rfl
       case hn => decide
       case h => (first | fail)
       case hf => (simp only [List.forall_mem_cons, List.not_mem_nil, false_implies, implies_true, and_true, true_and, flat_cons, flat_nil, flat_ints, flat_bools, flat_app, Cell.refs, and_self, eq_self_iff_true, List.append_nil])
       case hl => (simp only [List.length_cons, List.length_nil]; decide))
    | (apply cl_lendx
       case ha => (simp only [List.map_cons, List.map_nil, prepV, prepC, idx, hpL', lookR, Nat.reduceEqDiff, if_true, if_false]; rfl)
       case hr => (simp only [lentRows, List.map_cons, List.map_nil, hpL', lookR, Row.ren, Cell.ren, idx, Ints_ren, Nat.reduceEqDiff, if_true, if_false, ↓reduceIte, reduceCtorEq]; rfl)
       case hs => rfl
       case hn => decide
       case h => (first | fail)
       case hf => (intro r hr; simp only [List.mem_cons, List.not_mem_nil, or_false] at hr; rcases hr with rfl | rfl <;> (refine ⟨_, rfl, ?_⟩; first | exact fun c hc q hq => absurd hq (Ints_refs0 _ _ c hc) | (simp [Cell.refs]; done)))
       case hl => (simp only [List.length_cons, List.length_nil]; decide))
    | (apply cl_show
       case ha => (simp only [List.map_cons, List.map_nil, prepV, prepC, idx, hpL', lookR, Nat.reduceEqDiff, if_true, if_false]; rfl)
       case hs => ((simp [snaps, SV.refs, Cell.refs, idx, hpL', lookR]) <;> (repeat' apply And.intro) <;> exact Ints_isG _)
       case h => (first | fail)
       case hg => ((simp [SV.noG, SV.noGL, Cell.noG]) <;> (repeat' apply And.intro) <;> exact Ints_noG _))
    | ((first | refine s1_id ?_ | refine swp_id ?_ | refine sops_id ?_ | refine s2_id ?_); simp only [go_sem, Nat.reduceEqDiff, Nat.reduceAdd, Nat.reduceSub, Nat.reduceMul, Nat.reduceLT, Nat.reduceLeDiff, ↓reduceIte, reduceCtorEq, List.reduceReplicate, Int.cast_ofNat_Int, Int.reduceEq, Int.reduceLT, Int.reduceLE, SV.ren, SV.renL, Cell.ren, Row.ren, renO, bk, back, outUpsFrom, Ints_ren])
    | (apply fs_nil <;> (try simp only [go_sem, resV, resS, SV.ren, SV.renL, Cell.ren, St.tmF, St.hpF, idx, renO, Row.ren, evS, slot, lookR, Nat.reduceEqDiff, ↓reduceIte, reduceCtorEq, if_true, if_false, Option.getD_some, Option.getD_none, List.map_cons, List.map_nil, sLoad, readAt, readNeed, Ints_ren, Ints_length, Ints_getD, and_true, true_and, List.getD_cons_zero, List.getD_cons_succ]) <;> (try rfl)))
  · simp only [Bool.not_eq_true', Bool.not_eq_false', decide_eq_true_eq, decide_eq_false_iff_not, Bool.or_eq_true, Bool.or_eq_false_iff, Bool.and_eq_true] at *
    refine le_mk (i + 1) ?_ (by omega) (by omega)
    (refine imp_sub _ _ _ [] (by simp) (by simp) (by simp) (Nat.zero_le _) ?_ rfl (by simp); simp only [List.forall_mem_cons, List.not_mem_nil, false_implies, implies_true, and_true, lk, slot, SV.ren, Cell.ren, Nat.reduceEqDiff, if_true, if_false, ↓reduceIte, reduceCtorEq]); ((repeat' apply And.intro) <;> (first | rfl | trivial))
  · simp only [Bool.not_eq_true', Bool.not_eq_false', decide_eq_true_eq, decide_eq_false_iff_not, Bool.or_eq_true, Bool.or_eq_false_iff, Bool.and_eq_true] at *
    rw [show i = c.length by omega]
theorem held_spec (x : Pl) (k : Option Nat) (hs : Sml x) : FnSpec Try.prog 15 [plt x k] [] (i1 (hld x)) [] := by
  have h1 := sum_spec x.c k hs.len (fun n hn => by have := sumN_sml hs.len hs.all n hn; omega)
  have hb := sumN_sml hs.len hs.all x.c.length (Nat.le_refl _)
  have h2 := sum_spec [x.l, tot x.c] (some 2) (by simp) (fun n hn => by
    have := hs.left
    match n, hn with
    | 0, _ => simp [sumN]
    | 1, _ => simp [sumN]; omega
    | 2, _ => simp only [sumN, List.getD_cons_zero, List.getD_cons_succ]; simp only [tot] at *; omega
    | n + 3, hn => simp at hn)
  have e : tot [x.l, tot x.c] = hld x := by simp [tot, sumN, hld]
  rw [e] at h2
  clear e hs hb
  obtain ⟨g, q, b, s, l, c, sp, pe, th, em⟩ := x
  simp only at h1 h2
  refine fnspec_of mixed TT_ok TT_cl ⟨fun _ => false, fun _ => [], 0, fun _ => false, fun _ => false⟩ Try.func15 rfl (by kernel_rfl) rfl 10 rfl [.tmp 2] rfl ?_
  simp only [go_sem, Nat.reduceEqDiff, Nat.reduceAdd, Nat.reduceSub, Nat.reduceMul, Nat.reduceLT, Nat.reduceLeDiff, ↓reduceIte, reduceCtorEq, List.reduceReplicate, Int.cast_ofNat_Int, Int.reduceEq, Int.reduceLT, Int.reduceLE, plc]
  repeat' (first
    | with_reducible refine And.intro ?_ ?_
    | (unfold OKC; kernel_rfl)
    | (apply okc_up <;> (first | ((repeat (first | exact Sub.nil | apply Sub.gfp | apply Sub.same)); done) | kernel_rfl))
    | (unfold EDG; kernel_rfl)
    | (intros; (try simp only [Bool.and_eq_true, Bool.or_eq_true, Bool.not_eq_true', Bool.not_eq_false', Bool.and_eq_false_iff, Bool.or_eq_false_iff, decide_eq_true_eq, decide_eq_false_iff_not] at *); omega)
    | (refine gt_if (fun h => ?_) (fun h => ?_) <;> (try simp only [h]))
    | (refine pt_if (fun h => ?_) (fun h => ?_) <;> (try simp only [h]))
    | (refine cd_if (fun h => ?_) (fun h => ?_) <;> (try simp only [h]))
    | (apply cg_tp
       case hl => rfl
       case ha => (simp only [List.map_cons, List.map_nil, prepV, prepC, idx, hpL', lookR, Nat.reduceEqDiff, if_true, if_false]; rfl)
       case hs => rfl
       case h => (first | exact h1 .. | exact h2 ..))
    | (apply cg_any
       case hl => rfl
       case ha => (intro hb; simp only [List.map_cons, List.map_nil, cnd, hb, if_true, prepV, prepC, idx, hpL', lookR, Nat.reduceEqDiff, if_false]; rfl)
       case hs => (intro hb; simp only [cnd, hb, if_true]; rfl)
       case h => (first | exact h1 .. | exact h2 ..))
    | (apply cl_plain
       case hs => rfl
       case ha => (simp only [List.map_cons, List.map_nil, prepV, prepC, idx, hpL', lookR, Nat.reduceEqDiff, if_true, if_false]; rfl)
       case h => (first | exact h1 .. | exact h2 ..))
    | (apply cl_lend
       case hr => (simp only [List.map_cons, List.map_nil, hpL', lookR, Nat.reduceEqDiff, if_true, if_false]; first | exact map1 _ | exact map2 _ _ | exact map3 _ _ _)
       case ha => (simp only [List.map_cons, List.map_nil, prepV, prepC, idx, hpL', lookR, Nat.reduceEqDiff, if_true, if_false]; rfl)
       case hs => rfl
       case hn => decide
       case h => (first | exact h1 .. | exact h2 ..)
       case hf => (simp only [List.forall_mem_cons, List.not_mem_nil, false_implies, implies_true, and_true, true_and, flat_cons, flat_nil, flat_ints, flat_bools, flat_app, Cell.refs, and_self, eq_self_iff_true, List.append_nil])
       case hl => (simp only [List.length_cons, List.length_nil]; decide))
    | (apply cl_lendx
       case ha => (simp only [List.map_cons, List.map_nil, prepV, prepC, idx, hpL', lookR, Nat.reduceEqDiff, if_true, if_false]; rfl)
       case hr => (simp only [lentRows, List.map_cons, List.map_nil, hpL', lookR, Row.ren, Cell.ren, idx, Ints_ren, Nat.reduceEqDiff, if_true, if_false, ↓reduceIte, reduceCtorEq]; rfl)
       case hs => rfl
       case hn => decide
       case h => (first | exact h1 .. | exact h2 ..)
       case hf => (intro r hr; simp only [List.mem_cons, List.not_mem_nil, or_false] at hr; rcases hr with rfl | rfl <;> (refine ⟨_, rfl, ?_⟩; first | exact fun c hc q hq => absurd hq (Ints_refs0 _ _ c hc) | (simp [Cell.refs]; done)))
       case hl => (simp only [List.length_cons, List.length_nil]; decide))
    | (apply cl_show
       case ha => (simp only [List.map_cons, List.map_nil, prepV, prepC, idx, hpL', lookR, Nat.reduceEqDiff, if_true, if_false]; rfl)
       case hs => ((simp [snaps, SV.refs, Cell.refs, idx, hpL', lookR]) <;> (repeat' apply And.intro) <;> exact Ints_isG _)
       case h => (first | exact h1 .. | exact h2 ..)
       case hg => ((simp [SV.noG, SV.noGL, Cell.noG]) <;> (repeat' apply And.intro) <;> exact Ints_noG _))
    | ((first | refine s1_id ?_ | refine swp_id ?_ | refine sops_id ?_ | refine s2_id ?_); simp only [plc, go_sem, Nat.reduceEqDiff, Nat.reduceAdd, Nat.reduceSub, Nat.reduceMul, Nat.reduceLT, Nat.reduceLeDiff, ↓reduceIte, reduceCtorEq, List.reduceReplicate, Int.cast_ofNat_Int, Int.reduceEq, Int.reduceLT, Int.reduceLE, SV.ren, SV.renL, Cell.ren, Row.ren, renO, bk, back, outUpsFrom, Ints_ren])
    | (apply fs_nil <;> (try simp only [go_sem, resV, resS, SV.ren, SV.renL, Cell.ren, St.tmF, St.hpF, idx, renO, Row.ren, evS, slot, lookR, Nat.reduceEqDiff, ↓reduceIte, reduceCtorEq, if_true, if_false, Option.getD_some, Option.getD_none, List.map_cons, List.map_nil, sLoad, readAt, readNeed, Ints_ren, Ints_length, Ints_getD, and_true, true_and, List.getD_cons_zero, List.getD_cons_succ]) <;> (try rfl)))
theorem rheld_spec (x : Pl) (k : Option Nat) (hs : Sml x) : FnSpec Try.prog 16 [plt x k] [] (i1 (hld x)) [] := by
  have hr := fun n hn => sumN_sml hs.len hs.all n hn
  have hl := hs.left
  have hlen := hs.len
  clear hs
  obtain ⟨g, q, b, s, l, c, sp, pe, th, em⟩ := x
  simp only at hr hl hlen
  refine fnspec_of mixed TT_ok TT_cl ⟨fun _ => false, fun _ => [], 0, fun _ => false, fun _ => false⟩ Try.func16 rfl (by kernel_rfl) rfl 22 rfl [.tmp 2] rfl ?_
  simp only [go_sem, Nat.reduceEqDiff, Nat.reduceAdd, Nat.reduceSub, Nat.reduceMul, Nat.reduceLT, Nat.reduceLeDiff, ↓reduceIte, reduceCtorEq, List.reduceReplicate, Int.cast_ofNat_Int, Int.reduceEq, Int.reduceLT, Int.reduceLE, plc]
  refine w_loop (ι := Nat) (fun i => ⟨[(1, .one (.optr 0 0)), (3, i1 (l + sumN c i)), (4, i1 i)], [(0, some ⟨plc ⟨g, q, b, s, l, c, sp, pe, th, em⟩ k, 10⟩)], 1⟩) (fun i => i ≤ c.length) (fun i => c.length - i) 0 ?_ (Nat.zero_le _) ?_
  · (refine imp_ren _ _ _ [(0, 0, ⟨plc ⟨g, q, b, s, l, c, sp, pe, th, em⟩ k, 10⟩)] (by simp) (by simp) (by simp) (Nat.le_of_ble_eq_true rfl) ?_ rfl (by simp only [List.forall_mem_cons, List.not_mem_nil, false_implies, implies_true, and_true, St.hpF, lookR, Nat.reduceEqDiff, if_true, if_false, ↓reduceIte] <;> (repeat' apply And.intro) <;> (first | rfl | trivial)) (by simp only [List.forall_mem_cons, List.not_mem_nil, false_implies, implies_true, and_true, true_and, flat_cons, flat_nil, flat_ints, flat_bools, flat_app, Cell.refs, and_self, eq_self_iff_true, List.append_nil]); simp only [List.map_cons, List.map_nil, List.forall_mem_cons, List.not_mem_nil, false_implies, implies_true, and_true, lk, slot, SV.ren, Cell.ren, toN, Nat.reduceEqDiff, if_true, if_false, ↓reduceIte, reduceCtorEq])
    all_goals ((repeat' apply And.intro) <;> (first | rfl | trivial | (simp only [sumN, Int.add_zero]; done) | (simp only [sumN, Int.add_zero]; rfl) | (simp only [sumN, Int.add_zero]; trivial)))
  intro i hi
  have h2 := hr i hi
  have h3 : i < c.length → -1000000000000 ≤ sumN c i + c.getD i 0 ∧ sumN c i + c.getD i 0 ≤ 1000000000000 := fun hlt => hr (i + 1) hlt
  simp only [go_sem, Nat.reduceEqDiff, Nat.reduceAdd, Nat.reduceSub, Nat.reduceMul, Nat.reduceLT, Nat.reduceLeDiff, ↓reduceIte, reduceCtorEq, List.reduceReplicate, Int.cast_ofNat_Int, Int.reduceEq, Int.reduceLT, Int.reduceLE, plc]
  repeat' (first
    | with_reducible refine And.intro ?_ ?_
    | (unfold OKC; kernel_rfl)
    | (apply okc_up <;> (first | ((repeat (first | exact Sub.nil | apply Sub.gfp | apply Sub.same)); done) | kernel_rfl))
    | (unfold EDG; kernel_rfl)
    | (intros; (try simp only [Bool.and_eq_true, Bool.or_eq_true, Bool.not_eq_true', Bool.not_eq_false', Bool.and_eq_false_iff, Bool.or_eq_false_iff, decide_eq_true_eq, decide_eq_false_iff_not] at *); omega)
    | (refine gt_if (fun h => ?_) (fun h => ?_) <;> (try simp only [h]))
    | (refine pt_if (fun h => ?_) (fun h => ?_) <;> (try simp only [h]))
    | (refine cd_if (fun h => ?_) (fun h => ?_) <;> (try simp only [h]))
    | (apply cg_tp
       case hl => rfl
       case ha => (simp only [List.map_cons, List.map_nil, prepV, prepC, idx, hpL', lookR, Nat.reduceEqDiff, if_true, if_false]; rfl)
       case hs => rfl
       case h => (first | fail))
    | (apply cg_any
       case hl => rfl
       case ha => (intro hb; simp only [List.map_cons, List.map_nil, cnd, hb, if_true, prepV, prepC, idx, hpL', lookR, Nat.reduceEqDiff, if_false]; rfl)
       case hs => (intro hb; simp only [cnd, hb, if_true]; rfl)
       case h => (first | fail))
    | (apply cl_plain
       case hs => rfl
       case ha => (simp only [List.map_cons, List.map_nil, prepV, prepC, idx, hpL', lookR, Nat.reduceEqDiff, if_true, if_false]; rfl)
       case h => (first | fail))
    | (apply cl_lend
       case hr => (simp only [List.map_cons, List.map_nil, hpL', lookR, Nat.reduceEqDiff, if_true, if_false]; first | exact map1 _ | exact map2 _ _ | exact map3 _ _ _)
       case ha => (simp only [List.map_cons, List.map_nil, prepV, prepC, idx, hpL', lookR, Nat.reduceEqDiff, if_true, if_false]; rfl)
       case hs => rfl
       case hn => decide
       case h => (first | fail)
       case hf => (simp only [List.forall_mem_cons, List.not_mem_nil, false_implies, implies_true, and_true, true_and, flat_cons, flat_nil, flat_ints, flat_bools, flat_app, Cell.refs, and_self, eq_self_iff_true, List.append_nil])
       case hl => (simp only [List.length_cons, List.length_nil]; decide))
    | (apply cl_lendx
       case ha => (simp only [List.map_cons, List.map_nil, prepV, prepC, idx, hpL', lookR, Nat.reduceEqDiff, if_true, if_false]; rfl)
       case hr => (simp only [lentRows, List.map_cons, List.map_nil, hpL', lookR, Row.ren, Cell.ren, idx, Ints_ren, Nat.reduceEqDiff, if_true, if_false, ↓reduceIte, reduceCtorEq]; rfl)
       case hs => rfl
       case hn => decide
       case h => (first | fail)
       case hf => (intro r hr; simp only [List.mem_cons, List.not_mem_nil, or_false] at hr; rcases hr with rfl | rfl <;> (refine ⟨_, rfl, ?_⟩; first | exact fun c hc q hq => absurd hq (Ints_refs0 _ _ c hc) | (simp [Cell.refs]; done)))
       case hl => (simp only [List.length_cons, List.length_nil]; decide))
    | (apply cl_show
       case ha => (simp only [List.map_cons, List.map_nil, prepV, prepC, idx, hpL', lookR, Nat.reduceEqDiff, if_true, if_false]; rfl)
       case hs => ((simp [snaps, SV.refs, Cell.refs, idx, hpL', lookR]) <;> (repeat' apply And.intro) <;> exact Ints_isG _)
       case h => (first | fail)
       case hg => ((simp [SV.noG, SV.noGL, Cell.noG]) <;> (repeat' apply And.intro) <;> exact Ints_noG _))
    | ((first | refine s1_id ?_ | refine swp_id ?_ | refine sops_id ?_ | refine s2_id ?_); simp only [plc, go_sem, Nat.reduceEqDiff, Nat.reduceAdd, Nat.reduceSub, Nat.reduceMul, Nat.reduceLT, Nat.reduceLeDiff, ↓reduceIte, reduceCtorEq, List.reduceReplicate, Int.cast_ofNat_Int, Int.reduceEq, Int.reduceLT, Int.reduceLE, SV.ren, SV.renL, Cell.ren, Row.ren, renO, bk, back, outUpsFrom, Ints_ren])
    | (apply fs_nil <;> (try simp only [go_sem, resV, resS, SV.ren, SV.renL, Cell.ren, St.tmF, St.hpF, idx, renO, Row.ren, evS, slot, lookR, Nat.reduceEqDiff, ↓reduceIte, reduceCtorEq, if_true, if_false, Option.getD_some, Option.getD_none, List.map_cons, List.map_nil, sLoad, readAt, readNeed, Ints_ren, Ints_length, Ints_getD, and_true, true_and, List.getD_cons_zero, List.getD_cons_succ]) <;> (try rfl)))
  · simp only [Bool.not_eq_true', Bool.not_eq_false', decide_eq_true_eq, decide_eq_false_iff_not, Bool.or_eq_true, Bool.or_eq_false_iff, Bool.and_eq_true] at *
    refine le_mk (i + 1) ?_ (by omega) (by omega)
    (refine imp_ren _ _ _ [(0, 0, ⟨plc ⟨g, q, b, s, l, c, sp, pe, th, em⟩ k, 10⟩)] (by simp) (by simp) (by simp) (Nat.le_of_ble_eq_true rfl) ?_ rfl (by simp only [List.forall_mem_cons, List.not_mem_nil, false_implies, implies_true, and_true, St.hpF, lookR, Nat.reduceEqDiff, if_true, if_false, ↓reduceIte] <;> (repeat' apply And.intro) <;> (first | rfl | trivial)) (by simp only [List.forall_mem_cons, List.not_mem_nil, false_implies, implies_true, and_true, true_and, flat_cons, flat_nil, flat_ints, flat_bools, flat_app, Cell.refs, and_self, eq_self_iff_true, List.append_nil]); simp only [List.map_cons, List.map_nil, List.forall_mem_cons, List.not_mem_nil, false_implies, implies_true, and_true, lk, slot, SV.ren, Cell.ren, toN, Nat.reduceEqDiff, if_true, if_false, ↓reduceIte, reduceCtorEq])
    all_goals ((repeat' apply And.intro) <;> (first | rfl | trivial | (simp only [sumN, Int.add_assoc]; done) | (simp only [sumN, Int.add_assoc]; rfl) | (simp only [sumN, Int.add_assoc]; trivial)))
  · simp only [Bool.not_eq_true', Bool.not_eq_false', decide_eq_true_eq, decide_eq_false_iff_not, Bool.or_eq_true, Bool.or_eq_false_iff, Bool.and_eq_true] at *
    rw [show i = c.length by omega]
    rfl
end Go.Proofs.Ytlaplcjenndigaa
