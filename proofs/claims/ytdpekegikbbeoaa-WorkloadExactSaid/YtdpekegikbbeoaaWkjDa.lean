/- Contracts of functions, told of values, on the way to WorkloadExact. -/
import Derived.Test.YtdpekegikbbeoaaTyDa
import Derived.Test.YtdpekegikbbeoaaWk7Da
-- NEWGO
-- PRUNE: cl_lendx
namespace Go.Proofs.Ytdpekegikbbeoaa
set_option linter.unusedVariables false
set_option linter.unusedSimpArgs false
open Go.Proofs.Ytdpekegikbbeoaa.Sh
set_option maxRecDepth 20000
set_option maxHeartbeats 8000000 in
theorem exact_spec (p : List (List Stp)) (c : Option Nat) (r : Rr) (t q s n : Int) (hp : p.length ≤ 9223372036854775807) : FnSpec Try.prog 17 [gp p c, rrt r, i1 t, i1 q, i1 s, i1 n] [] (b1 true) [] := by
  have a1 := start_spec p c t q hp
  have a2 := rstart_spec p c t q hp
  have a3 := current_spec p c r hp
  have a4 := rcurrent_spec p c r hp
  have a5 := valid_spec p c hp
  have a6 := rvalid_spec p c hp
  have a7 := sound_spec p c r hp
  have a8 := rsound_spec p c r hp
  have a9 := eager_spec p c r hp
  have b0 := reager_spec p c r hp
  have b1 := unit_spec p c r hp
  have b2 := runit_spec p c r hp
  have b3 := next_spec' p c r hp
  have b4 := rnext_spec p c r hp
  have b5 := wait_spec p c r s n hp
  have b6 := rwait_spec p c r s n hp
  have b7 := wake_spec p c r n hp
  have b8 := rwake_spec p c r n hp
  generalize (snd p r && (decide (r.s = 0) || decide (r.s = 3))) = be at *
  generalize pstart p t q = x1 at *
  generalize pcur p r = x2 at *
  generalize vOk p = x3 at *
  generalize snd p r = x4 at *
  generalize punit p r = x5 at *
  generalize pnext p r = x6 at *
  generalize pwait p r s n = x7 at *
  generalize pwake p r n = x8 at *
  obtain ⟨⟨x11, x12, x13, x14, x15, x16⟩, e1⟩ := x1
  obtain ⟨⟨x21, x22, x23, x24⟩, e2⟩ := x2
  obtain ⟨⟨x51, x52, x53, x54, x55, x56⟩, e5⟩ := x5
  obtain ⟨⟨x61, x62, x63, x64, x65, x66⟩, e6⟩ := x6
  obtain ⟨⟨x71, x72, x73, x74, x75, x76⟩, e7⟩ := x7
  obtain ⟨⟨x81, x82, x83, x84, x85, x86⟩, e8⟩ := x8
  obtain ⟨r1, r2, r3, r4, r5, r6⟩ := r
  simp only [rre, rrb, stb, rrt, rrc, stt, stc] at a1 a2 a3 a4 b1 b2 b3 b4 b5 b6 b7 b8
  refine fnspec_of mixed TT_ok TT_cl ⟨fun _ => false, fun _ => [], 0, fun _ => false, fun _ => false⟩ Try.func17 rfl (by kernel_rfl) rfl 184 rfl [.tmp 12] rfl ?_
  simp only [go_sem, Nat.reduceEqDiff, Nat.reduceAdd, Nat.reduceSub, Nat.reduceMul, Nat.reduceLT, Nat.reduceLeDiff, ↓reduceIte, reduceCtorEq, List.reduceReplicate, Int.cast_ofNat_Int, Int.reduceEq, Int.reduceLT, Int.reduceLE, rrc]
  repeat' (first
    | with_reducible refine And.intro ?_ ?_
    | (unfold OKC; kernel_rfl)
    | (apply okc_up <;> (first | ((repeat (first | exact Sub.nil | apply Sub.gfp | apply Sub.same)); done) | kernel_rfl))
    | (unfold EDG; kernel_rfl)
    | (intros; (try simp only [Bool.and_eq_true, Bool.or_eq_true, Bool.not_eq_true', Bool.not_eq_false', Bool.and_eq_false_iff, Bool.or_eq_false_iff, decide_eq_true_eq, decide_eq_false_iff_not] at *); omega)
    | (refine gt_if (fun h => ?_) (fun h => ?_) <;> (try simp only [h]))
    | (refine pt_if (fun h => ?_) (fun h => ?_) <;> (try simp only [h]))
    | (refine cd_if (fun h => ?_) (fun h => ?_) <;> (try simp only [h]))
    | (apply cg_tp
       case hl => rfl
       case ha => (simp only [List.map_cons, List.map_nil, prepV, prepC, idx, hpL', lookR, Nat.reduceEqDiff, if_true, if_false]; rfl)
       case hs => rfl
       case h => (first | exact a1 .. | exact a2 .. | exact a3 .. | exact a4 .. | exact a5 .. | exact a6 .. | exact a7 .. | exact a8 .. | exact a9 .. | exact b0 .. | exact b1 .. | exact b2 .. | exact b3 .. | exact b4 .. | exact b5 .. | exact b6 .. | exact b7 .. | exact b8 ..))
    | (apply cg_ts
       case hl => rfl
       case ha => (simp only [List.map_cons, List.map_nil, prepV, prepC, idx, hpL', lookR, Nat.reduceEqDiff, if_true, if_false]; rfl)
       case hs => (simp only [snaps_nil, List.flatMap_cons, List.flatMap_nil, SV.refs, Cell.refs, List.nil_append, List.cons_append, List.append_nil]; rfl)
       case h => (first | exact a1 .. | exact a2 .. | exact a3 .. | exact a4 .. | exact a5 .. | exact a6 .. | exact a7 .. | exact a8 .. | exact a9 .. | exact b0 .. | exact b1 .. | exact b2 .. | exact b3 .. | exact b4 .. | exact b5 .. | exact b6 .. | exact b7 .. | exact b8 ..)
       case hf => ((simp only [List.forall_mem_cons, List.not_mem_nil, false_implies, implies_true, and_true, hpL', lookR, Nat.reduceEqDiff, if_true, if_false]) <;> (repeat' apply And.intro) <;> (first | exact ⟨_, rfl, Ints_isG _⟩ | exact ⟨_, rfl, by simp [Cell.isG]⟩))
       case hg => simp [SV.noG, SV.noGL, Cell.noG])
    | (apply cg_any
       case hl => rfl
       case ha => (intro hb; simp only [List.map_cons, List.map_nil, cnd, hb, if_true, prepV, prepC, idx, hpL', lookR, Nat.reduceEqDiff, if_false]; rfl)
       case hs => (intro hb; simp only [cnd, hb, if_true]; rfl)
       case h => (first | exact a1 .. | exact a2 .. | exact a3 .. | exact a4 .. | exact a5 .. | exact a6 .. | exact a7 .. | exact a8 .. | exact a9 .. | exact b0 .. | exact b1 .. | exact b2 .. | exact b3 .. | exact b4 .. | exact b5 .. | exact b6 .. | exact b7 .. | exact b8 ..))
    | (apply cg_show
       case hl => rfl
       case ha => (intro hb; simp only [List.map_cons, List.map_nil, cnd, hb, if_true, prepV, prepC, idx, hpL', lookR, Nat.reduceEqDiff, if_false]; rfl)
       case hs => (intro hb; simp only [cnd, hb, if_true, snaps_nil, List.flatMap_cons, List.flatMap_nil, SV.refs, Cell.refs, List.nil_append, List.cons_append, List.append_nil]; rfl)
       case h => (first | exact a1 .. | exact a2 .. | exact a3 .. | exact a4 .. | exact a5 .. | exact a6 .. | exact a7 .. | exact a8 .. | exact a9 .. | exact b0 .. | exact b1 .. | exact b2 .. | exact b3 .. | exact b4 .. | exact b5 .. | exact b6 .. | exact b7 .. | exact b8 ..)
       case hf => ((simp only [List.forall_mem_cons, List.not_mem_nil, false_implies, implies_true, and_true, hpL', lookR, Nat.reduceEqDiff, if_true, if_false]) <;> (repeat' apply And.intro) <;> (first | exact ⟨_, rfl, Ints_isG _⟩ | exact ⟨_, rfl, by simp [Cell.isG]⟩))
       case hg => simp [SV.noG, SV.noGL, Cell.noG])
    | (apply cl_plain
       case hs => rfl
       case ha => (simp only [List.map_cons, List.map_nil, prepV, prepC, idx, hpL', lookR, Nat.reduceEqDiff, if_true, if_false]; rfl)
       case h => (first | exact a1 .. | exact a2 .. | exact a3 .. | exact a4 .. | exact a5 .. | exact a6 .. | exact a7 .. | exact a8 .. | exact a9 .. | exact b0 .. | exact b1 .. | exact b2 .. | exact b3 .. | exact b4 .. | exact b5 .. | exact b6 .. | exact b7 .. | exact b8 ..))
    | (apply cl_lend
       case hr => (simp only [List.map_cons, List.map_nil, hpL', lookR, Nat.reduceEqDiff, if_true, if_false]; first | exact map1 _ | exact map2 _ _ | exact map3 _ _ _)
       case ha => (simp only [List.map_cons, List.map_nil, prepV, prepC, idx, hpL', lookR, Nat.reduceEqDiff, if_true, if_false]; rfl)
       case hs => rfl
       case hn => decide
       case h => (first | exact a1 .. | exact a2 .. | exact a3 .. | exact a4 .. | exact a5 .. | exact a6 .. | exact a7 .. | exact a8 .. | exact a9 .. | exact b0 .. | exact b1 .. | exact b2 .. | exact b3 .. | exact b4 .. | exact b5 .. | exact b6 .. | exact b7 .. | exact b8 ..)
       case hf => (simp only [List.forall_mem_cons, List.not_mem_nil, false_implies, implies_true, and_true, true_and, flat_cons, flat_nil, flat_ints, flat_bools, flat_app, Cell.refs, and_self, eq_self_iff_true, List.append_nil])
       case hl => (simp only [List.length_cons, List.length_nil]; decide))
    | (apply cl_show
       case ha => (simp only [List.map_cons, List.map_nil, prepV, prepC, idx, hpL', lookR, Nat.reduceEqDiff, if_true, if_false]; rfl)
       case hs => ((simp [snaps, SV.refs, Cell.refs, idx, hpL', lookR]) <;> (repeat' apply And.intro) <;> exact Ints_isG _)
       case h => (first | exact a1 .. | exact a2 .. | exact a3 .. | exact a4 .. | exact a5 .. | exact a6 .. | exact a7 .. | exact a8 .. | exact a9 .. | exact b0 .. | exact b1 .. | exact b2 .. | exact b3 .. | exact b4 .. | exact b5 .. | exact b6 .. | exact b7 .. | exact b8 ..)
       case hg => ((simp [SV.noG, SV.noGL, Cell.noG]) <;> (repeat' apply And.intro) <;> exact Ints_noG _))
    | (apply cl_use
       case hr => (simp only [List.map_cons, List.map_nil, hpL', lookR, Nat.reduceEqDiff, if_true, if_false]; first | exact map0 | exact map1 _ | exact map2 _ _ | exact map3 _ _ _)
       case ha => (simp only [List.map_cons, List.map_nil, prepV, prepC, idx, hpL', lookR, Nat.reduceEqDiff, if_true, if_false]; rfl)
       case hs => (simp only [snaps, SV.refs, Cell.refs, idx, List.flatMap_cons, List.flatMap_nil, List.nil_append, List.cons_append, List.append_nil, List.filter_cons, List.filter_nil, Nat.reduceEqDiff, if_true, if_false, Option.isNone_none, Option.isNone_some, Bool.false_eq_true, reduceCtorEq, ↓reduceIte]; rfl)
       case hn => decide
       case h => (first | exact a1 .. | exact a2 .. | exact a3 .. | exact a4 .. | exact a5 .. | exact a6 .. | exact a7 .. | exact a8 .. | exact a9 .. | exact b0 .. | exact b1 .. | exact b2 .. | exact b3 .. | exact b4 .. | exact b5 .. | exact b6 .. | exact b7 .. | exact b8 ..)
       case hf => (simp only [List.forall_mem_cons, List.not_mem_nil, false_implies, implies_true, and_true, true_and, flat_cons, flat_nil, flat_ints, flat_bools, flat_app, Cell.refs, and_self, eq_self_iff_true, List.append_nil])
       case hg => ((simp [hpL', lookR, Cell.isG]) <;> (repeat' apply And.intro) <;> exact Ints_isG _)
       case hl => (simp only [List.length_cons, List.length_nil]; decide))
    | ((first | refine s1_id ?_ | refine swp_id ?_ | refine sops_id ?_ | refine s2_id ?_); simp only [rrt, rrc, decide_true, beq_self_eq_true, bne_self_eq_false, go_sem, Nat.reduceEqDiff, Nat.reduceAdd, Nat.reduceSub, Nat.reduceMul, Nat.reduceLT, Nat.reduceLeDiff, ↓reduceIte, reduceCtorEq, List.reduceReplicate, Int.cast_ofNat_Int, Int.reduceEq, Int.reduceLT, Int.reduceLE, SV.ren, SV.renL, Cell.ren, Row.ren, renO, bk, back, outUpsFrom, Ints_ren])
    | (apply fs_nil <;> (try simp only [go_sem, resV, resS, SV.ren, SV.renL, Cell.ren, St.tmF, St.hpF, idx, renO, Row.ren, evS, slot, lookR, Nat.reduceEqDiff, ↓reduceIte, reduceCtorEq, if_true, if_false, Option.getD_some, Option.getD_none, List.map_cons, List.map_nil, sLoad, readAt, readNeed, Ints_ren, Ints_length, Ints_getD, and_true, true_and, List.getD_cons_zero, List.getD_cons_succ]) <;> (try rfl)))
end Go.Proofs.Ytdpekegikbbeoaa
