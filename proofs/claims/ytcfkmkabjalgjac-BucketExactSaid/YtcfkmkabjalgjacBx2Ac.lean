/- Contracts of functions, told of values, on the way to BucketExact. -/
import Derived.Test.YtcfkmkabjalgjacTyAc
import Derived.Test.YtcfkmkabjalgjacBx1Ac
namespace Go.Proofs.Ytcfkmkabjalgjac
set_option linter.unusedVariables false
set_option linter.unusedSimpArgs false
open Go.Proofs.Ytcfkmkabjalgjac.Sh
theorem bopen_iff {r p s l t : Int} : bopen ⟨r, p, s, l, t⟩ = true ↔ r = 4611686018427387904 := by simp [bopen]
theorem bopen_no {r p s l t : Int} : bopen ⟨r, p, s, l, t⟩ = false ↔ ¬ r = 4611686018427387904 := by simp [bopen]
theorem bvalid_iff {r p s l t : Int} : bvalid ⟨r, p, s, l, t⟩ = true ↔ (1 ≤ p ∧ p ≤ 1048576) ∧ (0 ≤ t ∧ t ≤ 1048576) ∧ ((r = 4611686018427387904 ∧ s = 0 ∧ l = 0) ∨ (¬ r = 4611686018427387904 ∧ 0 ≤ r ∧ r ≤ 1073741824 ∧ 0 ≤ s ∧ s ≤ 1073741824 ∧ 0 ≤ l ∧ l ≤ s * p)) := by
  unfold bvalid
  split
  · rename_i h
    simp only [wi, Bool.or_eq_true, Bool.not_eq_true', Bool.and_eq_false_iff, decide_eq_false_iff_not] at h
    simp only [Bool.false_eq_true, false_iff]
    omega
  · rename_i h
    simp only [wi, Bool.or_eq_true, Bool.not_eq_true', Bool.and_eq_false_iff, decide_eq_false_iff_not] at h
    split
    · rename_i h2
      rw [bopen_iff] at h2
      simp only [Bool.and_eq_true, decide_eq_true_eq]
      omega
    · rename_i h2
      rw [Bool.not_eq_true, bopen_no] at h2
      simp only [wi, Bool.and_eq_true, decide_eq_true_eq]
      omega
theorem bvalid_no {r p s l t : Int} : bvalid ⟨r, p, s, l, t⟩ = false ↔ ¬ ((1 ≤ p ∧ p ≤ 1048576) ∧ (0 ≤ t ∧ t ≤ 1048576) ∧ ((r = 4611686018427387904 ∧ s = 0 ∧ l = 0) ∨ (¬ r = 4611686018427387904 ∧ 0 ≤ r ∧ r ≤ 1073741824 ∧ 0 ≤ s ∧ s ≤ 1073741824 ∧ 0 ≤ l ∧ l ≤ s * p))) := by
  rw [← Bool.not_eq_true, bvalid_iff]
theorem bopen_eq {r p s l t : Int} : (bopen ⟨r, p, s, l, t⟩ = true) = (r = 4611686018427387904) := propext bopen_iff
theorem wi_no {n a b : Int} : (wi n a b = false) = (n < a ∨ b < n) := by
  simp only [wi, Bool.and_eq_false_iff, decide_eq_false_iff_not, eq_iff_iff]
  omega
theorem rvalid_spec (b : Bk) : FnSpec Try.prog 25 [bkt b] [] (b1 (bvalid b)) [] := by
  obtain ⟨r, p, s, l, t⟩ := b
  refine fnspec_of mixed TT_ok TT_cl ⟨fun _ => false, fun _ => [], 0, fun _ => false, fun _ => false⟩ Try.func25 rfl (by kernel_rfl) rfl 65 rfl [.tmp 2] rfl ?_
  simp only [go_sem, Nat.reduceEqDiff, Nat.reduceAdd, Nat.reduceSub, Nat.reduceMul, Nat.reduceLT, Nat.reduceLeDiff, ↓reduceIte, reduceCtorEq, List.reduceReplicate, Int.cast_ofNat_Int, bkc]
  repeat' (first
    | with_reducible refine And.intro ?_ ?_
    | (unfold OKC; kernel_rfl)
    | (apply okc_up <;> (first | ((repeat (first | exact Sub.nil | apply Sub.gfp | apply Sub.same)); done) | kernel_rfl))
    | (unfold EDG; kernel_rfl)
    | (intros; (try simp only [Bool.and_eq_true, Bool.or_eq_true, Bool.not_eq_true', Bool.not_eq_false', Bool.and_eq_false_iff, Bool.or_eq_false_iff, decide_eq_true_eq, decide_eq_false_iff_not] at *); omega)
    | (refine cd_if (fun h => ?_) (fun h => ?_) <;> (first | (simp only [h, bkc, go_sem, Nat.reduceEqDiff, Nat.reduceAdd, Nat.reduceSub, Nat.reduceMul, Nat.reduceLT, Nat.reduceLeDiff, ↓reduceIte, reduceCtorEq, List.reduceReplicate, Int.cast_ofNat_Int]; done) | simp only [h, bkc, go_sem, Nat.reduceEqDiff, Nat.reduceAdd, Nat.reduceSub, Nat.reduceMul, Nat.reduceLT, Nat.reduceLeDiff, ↓reduceIte, reduceCtorEq, List.reduceReplicate, Int.cast_ofNat_Int] | skip))
    | (apply cg_tp
       case hl => rfl
       case ha => (simp only [List.map_cons, List.map_nil, prepV, prepC, idx, hpL', lookR, Nat.reduceEqDiff, if_true, if_false]; rfl)
       case hs => rfl
       case h => (first | fail)
       case' hk => simp only [bkc, go_sem, Nat.reduceEqDiff, Nat.reduceAdd, Nat.reduceSub, Nat.reduceMul, Nat.reduceLT, Nat.reduceLeDiff, ↓reduceIte, reduceCtorEq, List.reduceReplicate, Int.cast_ofNat_Int, SV.ren, SV.renL, Cell.ren])
    | (apply cg_ts
       case hl => rfl
       case ha => (simp only [List.map_cons, List.map_nil, prepV, prepC, idx, hpL', lookR, Nat.reduceEqDiff, if_true, if_false]; rfl)
       case hs => (simp only [snaps_nil, List.flatMap_cons, List.flatMap_nil, SV.refs, Cell.refs, List.nil_append, List.cons_append, List.append_nil]; rfl)
       case h => (first | fail)
       case hf => ((simp only [List.forall_mem_cons, List.not_mem_nil, false_implies, implies_true, and_true, hpL', lookR, Nat.reduceEqDiff, if_true, if_false]) <;> (repeat' apply And.intro) <;> exact ⟨_, rfl, Ints_isG _⟩)
       case hg => simp [SV.noG, SV.noGL, Cell.noG]
       case' hk => simp only [bkc, go_sem, Nat.reduceEqDiff, Nat.reduceAdd, Nat.reduceSub, Nat.reduceMul, Nat.reduceLT, Nat.reduceLeDiff, ↓reduceIte, reduceCtorEq, List.reduceReplicate, Int.cast_ofNat_Int, SV.ren, SV.renL, Cell.ren])
    | (apply cg_any
       case hl => rfl
       case ha => (intro hb; simp only [List.map_cons, List.map_nil, cnd, hb, if_true, prepV, prepC, idx, hpL', lookR, Nat.reduceEqDiff, if_false]; rfl)
       case hs => (intro hb; simp only [cnd, hb, if_true]; rfl)
       case h => (first | fail)
       case' hk => simp only [bkc, go_sem, Nat.reduceEqDiff, Nat.reduceAdd, Nat.reduceSub, Nat.reduceMul, Nat.reduceLT, Nat.reduceLeDiff, ↓reduceIte, reduceCtorEq, List.reduceReplicate, Int.cast_ofNat_Int, SV.ren, SV.renL, Cell.ren])
    | (apply cg_show
       case hl => rfl
       case ha => (intro hb; simp only [List.map_cons, List.map_nil, cnd, hb, if_true, prepV, prepC, idx, hpL', lookR, Nat.reduceEqDiff, if_false]; rfl)
       case hs => (intro hb; simp only [cnd, hb, if_true, snaps_nil, List.flatMap_cons, List.flatMap_nil, SV.refs, Cell.refs, List.nil_append, List.cons_append, List.append_nil]; rfl)
       case h => (first | fail)
       case hf => ((simp only [List.forall_mem_cons, List.not_mem_nil, false_implies, implies_true, and_true, hpL', lookR, Nat.reduceEqDiff, if_true, if_false]) <;> (repeat' apply And.intro) <;> exact ⟨_, rfl, Ints_isG _⟩)
       case hg => simp [SV.noG, SV.noGL, Cell.noG]
       case' hk => simp only [bkc, go_sem, Nat.reduceEqDiff, Nat.reduceAdd, Nat.reduceSub, Nat.reduceMul, Nat.reduceLT, Nat.reduceLeDiff, ↓reduceIte, reduceCtorEq, List.reduceReplicate, Int.cast_ofNat_Int, SV.ren, SV.renL, Cell.ren])
    | (apply cl_plain
       case hs => rfl
       case ha => (simp only [List.map_cons, List.map_nil, prepV, prepC, idx, hpL', lookR, Nat.reduceEqDiff, if_true, if_false]; rfl)
       case h => (first | fail)
       case' hk => simp only [bkc, go_sem, Nat.reduceEqDiff, Nat.reduceAdd, Nat.reduceSub, Nat.reduceMul, Nat.reduceLT, Nat.reduceLeDiff, ↓reduceIte, reduceCtorEq, List.reduceReplicate, Int.cast_ofNat_Int, SV.ren, SV.renL, Cell.ren, Row.ren, renO, bk, back, outUpsFrom, Ints_ren])
    | (apply cl_lend
       case hr => (simp only [List.map_cons, List.map_nil, hpL', lookR, Nat.reduceEqDiff, if_true, if_false]; first | exact map1 _ | exact map2 _ _ | exact map3 _ _ _)
       case ha => (simp only [List.map_cons, List.map_nil, prepV, prepC, idx, hpL', lookR, Nat.reduceEqDiff, if_true, if_false]; rfl)
       case hs => rfl
       case hn => decide
       case h => (first | fail)
       case hf => (simp only [List.forall_mem_cons, List.not_mem_nil, false_implies, implies_true, and_true, true_and, flat_cons, flat_nil, flat_ints, flat_app, Cell.refs, and_self, eq_self_iff_true, List.append_nil])
       case hl => (simp only [List.length_cons, List.length_nil]; decide)
       case' hk => simp only [bkc, go_sem, Nat.reduceEqDiff, Nat.reduceAdd, Nat.reduceSub, Nat.reduceMul, Nat.reduceLT, Nat.reduceLeDiff, ↓reduceIte, reduceCtorEq, List.reduceReplicate, Int.cast_ofNat_Int, SV.ren, SV.renL, Cell.ren, Row.ren, renO, bk, back, outUpsFrom, Ints_ren])
    | (apply cl_show
       case ha => (simp only [List.map_cons, List.map_nil, prepV, prepC, idx, hpL', lookR, Nat.reduceEqDiff, if_true, if_false]; rfl)
       case hs => ((simp [snaps, SV.refs, Cell.refs, idx, hpL', lookR]) <;> (repeat' apply And.intro) <;> exact Ints_isG _)
       case h => (first | fail)
       case hg => ((simp [SV.noG, SV.noGL, Cell.noG]) <;> (repeat' apply And.intro) <;> exact Ints_noG _)
       case' hk => simp only [bkc, go_sem, Nat.reduceEqDiff, Nat.reduceAdd, Nat.reduceSub, Nat.reduceMul, Nat.reduceLT, Nat.reduceLeDiff, ↓reduceIte, reduceCtorEq, List.reduceReplicate, Int.cast_ofNat_Int, SV.ren, SV.renL, Cell.ren, Row.ren, renO, bk, back, outUpsFrom, Ints_ren])
    | (apply cl_use
       case hr => (simp only [List.map_cons, List.map_nil, hpL', lookR, Nat.reduceEqDiff, if_true, if_false]; first | exact map0 | exact map1 _ | exact map2 _ _ | exact map3 _ _ _)
       case ha => (simp only [List.map_cons, List.map_nil, prepV, prepC, idx, hpL', lookR, Nat.reduceEqDiff, if_true, if_false]; rfl)
       case hs => (simp only [snaps, SV.refs, Cell.refs, idx, List.flatMap_cons, List.flatMap_nil, List.nil_append, List.cons_append, List.append_nil, List.filter_cons, List.filter_nil, Nat.reduceEqDiff, if_true, if_false, Option.isNone_none, Option.isNone_some, Bool.false_eq_true, reduceCtorEq, ↓reduceIte]; rfl)
       case hn => decide
       case h => (first | fail)
       case hf => (simp only [List.forall_mem_cons, List.not_mem_nil, false_implies, implies_true, and_true, true_and, flat_cons, flat_nil, flat_ints, flat_app, Cell.refs, and_self, eq_self_iff_true, List.append_nil])
       case hg => ((simp [hpL', lookR, Cell.isG]) <;> (repeat' apply And.intro) <;> exact Ints_isG _)
       case hl => (simp only [List.length_cons, List.length_nil]; decide)
       case' hk => simp only [bkc, go_sem, Nat.reduceEqDiff, Nat.reduceAdd, Nat.reduceSub, Nat.reduceMul, Nat.reduceLT, Nat.reduceLeDiff, ↓reduceIte, reduceCtorEq, List.reduceReplicate, Int.cast_ofNat_Int, SV.ren, SV.renL, Cell.ren, Row.ren, renO, bk, back, outUpsFrom, Ints_ren])
    | (apply fs_nil <;> (try simp only [go_sem, resV, resS, SV.ren, SV.renL, Cell.ren, St.tmF, St.hpF, idx, renO, Row.ren, evS, slot, lookR, Nat.reduceEqDiff, ↓reduceIte, reduceCtorEq, if_true, if_false, Option.getD_some, Option.getD_none, List.map_cons, List.map_nil, sLoad, readAt, readNeed, Ints_ren, Ints_length, Ints_getD, and_true, true_and, List.getD_cons_zero, List.getD_cons_succ]) <;> (try rfl)))
  all_goals
    simp only [Bool.not_eq_true', Bool.not_eq_false', decide_eq_true_eq, decide_eq_false_iff_not, Bool.or_eq_true, Bool.or_eq_false_iff, Bool.and_eq_true] at *
    first
    | (refine congrArg (fun q => b1 q) (Bool.eq_iff_iff.2 ?_)
       rw [bvalid_iff]
       simp only [Bool.false_eq_true, false_iff, Bool.and_eq_true, decide_eq_true_eq]
       omega)
    | (intro hq
       have := mul_rng (a := s) (b := p) (A := 1073741824) (B := 1048576) (by omega) (by omega) (by omega) (by omega)
       omega)
theorem rnew_spec (r p s t : Int) : FnSpec Try.prog 22 [i1 r, i1 p, i1 s, i1 t] [] (bre (bnew r p s t)) [] := by
  refine fnspec_of mixed TT_ok TT_cl ⟨fun _ => false, fun _ => [], 0, fun _ => false, fun _ => false⟩ Try.func22 rfl (by kernel_rfl) rfl 41 rfl [.cell 8 24, .tmp 9] rfl ?_
  simp only [go_sem, Nat.reduceEqDiff, Nat.reduceAdd, Nat.reduceSub, Nat.reduceMul, Nat.reduceLT, Nat.reduceLeDiff, ↓reduceIte, reduceCtorEq, List.reduceReplicate, Int.cast_ofNat_Int]
  repeat' (first
    | with_reducible refine And.intro ?_ ?_
    | (unfold OKC; kernel_rfl)
    | (apply okc_up <;> (first | ((repeat (first | exact Sub.nil | apply Sub.gfp | apply Sub.same)); done) | kernel_rfl))
    | (unfold EDG; kernel_rfl)
    | (intros; (try simp only [Bool.and_eq_true, Bool.or_eq_true, Bool.not_eq_true', Bool.not_eq_false', Bool.and_eq_false_iff, Bool.or_eq_false_iff, decide_eq_true_eq, decide_eq_false_iff_not] at *); omega)
    | (refine cd_if (fun h => ?_) (fun h => ?_) <;> (first | (simp only [h, bkc, go_sem, Nat.reduceEqDiff, Nat.reduceAdd, Nat.reduceSub, Nat.reduceMul, Nat.reduceLT, Nat.reduceLeDiff, ↓reduceIte, reduceCtorEq, List.reduceReplicate, Int.cast_ofNat_Int]; done) | simp only [h, bkc, go_sem, Nat.reduceEqDiff, Nat.reduceAdd, Nat.reduceSub, Nat.reduceMul, Nat.reduceLT, Nat.reduceLeDiff, ↓reduceIte, reduceCtorEq, List.reduceReplicate, Int.cast_ofNat_Int] | skip))
    | (apply cg_tp
       case hl => rfl
       case ha => (simp only [List.map_cons, List.map_nil, prepV, prepC, idx, hpL', lookR, Nat.reduceEqDiff, if_true, if_false]; rfl)
       case hs => rfl
       case h => (first | exact rvalid_spec (.mk _ _ _ _ _))
       case' hk => simp only [bkc, go_sem, Nat.reduceEqDiff, Nat.reduceAdd, Nat.reduceSub, Nat.reduceMul, Nat.reduceLT, Nat.reduceLeDiff, ↓reduceIte, reduceCtorEq, List.reduceReplicate, Int.cast_ofNat_Int, SV.ren, SV.renL, Cell.ren])
    | (apply cg_ts
       case hl => rfl
       case ha => (simp only [List.map_cons, List.map_nil, prepV, prepC, idx, hpL', lookR, Nat.reduceEqDiff, if_true, if_false]; rfl)
       case hs => (simp only [snaps_nil, List.flatMap_cons, List.flatMap_nil, SV.refs, Cell.refs, List.nil_append, List.cons_append, List.append_nil]; rfl)
       case h => (first | exact rvalid_spec (.mk _ _ _ _ _))
       case hf => ((simp only [List.forall_mem_cons, List.not_mem_nil, false_implies, implies_true, and_true, hpL', lookR, Nat.reduceEqDiff, if_true, if_false]) <;> (repeat' apply And.intro) <;> exact ⟨_, rfl, Ints_isG _⟩)
       case hg => simp [SV.noG, SV.noGL, Cell.noG]
       case' hk => simp only [bkc, go_sem, Nat.reduceEqDiff, Nat.reduceAdd, Nat.reduceSub, Nat.reduceMul, Nat.reduceLT, Nat.reduceLeDiff, ↓reduceIte, reduceCtorEq, List.reduceReplicate, Int.cast_ofNat_Int, SV.ren, SV.renL, Cell.ren])
    | (apply cg_any
       case hl => rfl
       case ha => (intro hb; simp only [List.map_cons, List.map_nil, cnd, hb, if_true, prepV, prepC, idx, hpL', lookR, Nat.reduceEqDiff, if_false]; rfl)
       case hs => (intro hb; simp only [cnd, hb, if_true]; rfl)
       case h => (first | exact rvalid_spec (.mk _ _ _ _ _))
       case' hk => simp only [bkc, go_sem, Nat.reduceEqDiff, Nat.reduceAdd, Nat.reduceSub, Nat.reduceMul, Nat.reduceLT, Nat.reduceLeDiff, ↓reduceIte, reduceCtorEq, List.reduceReplicate, Int.cast_ofNat_Int, SV.ren, SV.renL, Cell.ren])
    | (apply cg_show
       case hl => rfl
       case ha => (intro hb; simp only [List.map_cons, List.map_nil, cnd, hb, if_true, prepV, prepC, idx, hpL', lookR, Nat.reduceEqDiff, if_false]; rfl)
       case hs => (intro hb; simp only [cnd, hb, if_true, snaps_nil, List.flatMap_cons, List.flatMap_nil, SV.refs, Cell.refs, List.nil_append, List.cons_append, List.append_nil]; rfl)
       case h => (first | exact rvalid_spec (.mk _ _ _ _ _))
       case hf => ((simp only [List.forall_mem_cons, List.not_mem_nil, false_implies, implies_true, and_true, hpL', lookR, Nat.reduceEqDiff, if_true, if_false]) <;> (repeat' apply And.intro) <;> exact ⟨_, rfl, Ints_isG _⟩)
       case hg => simp [SV.noG, SV.noGL, Cell.noG]
       case' hk => simp only [bkc, go_sem, Nat.reduceEqDiff, Nat.reduceAdd, Nat.reduceSub, Nat.reduceMul, Nat.reduceLT, Nat.reduceLeDiff, ↓reduceIte, reduceCtorEq, List.reduceReplicate, Int.cast_ofNat_Int, SV.ren, SV.renL, Cell.ren])
    | (apply cl_plain
       case hs => rfl
       case ha => (simp only [List.map_cons, List.map_nil, prepV, prepC, idx, hpL', lookR, Nat.reduceEqDiff, if_true, if_false]; rfl)
       case h => (first | exact rvalid_spec (.mk _ _ _ _ _))
       case' hk => simp only [bkc, go_sem, Nat.reduceEqDiff, Nat.reduceAdd, Nat.reduceSub, Nat.reduceMul, Nat.reduceLT, Nat.reduceLeDiff, ↓reduceIte, reduceCtorEq, List.reduceReplicate, Int.cast_ofNat_Int, SV.ren, SV.renL, Cell.ren, Row.ren, renO, bk, back, outUpsFrom, Ints_ren])
    | (apply cl_lend
       case hr => (simp only [List.map_cons, List.map_nil, hpL', lookR, Nat.reduceEqDiff, if_true, if_false]; first | exact map1 _ | exact map2 _ _ | exact map3 _ _ _)
       case ha => (simp only [List.map_cons, List.map_nil, prepV, prepC, idx, hpL', lookR, Nat.reduceEqDiff, if_true, if_false]; rfl)
       case hs => rfl
       case hn => decide
       case h => (first | exact rvalid_spec (.mk _ _ _ _ _))
       case hf => (simp only [List.forall_mem_cons, List.not_mem_nil, false_implies, implies_true, and_true, true_and, flat_cons, flat_nil, flat_ints, flat_app, Cell.refs, and_self, eq_self_iff_true, List.append_nil])
       case hl => (simp only [List.length_cons, List.length_nil]; decide)
       case' hk => simp only [bkc, go_sem, Nat.reduceEqDiff, Nat.reduceAdd, Nat.reduceSub, Nat.reduceMul, Nat.reduceLT, Nat.reduceLeDiff, ↓reduceIte, reduceCtorEq, List.reduceReplicate, Int.cast_ofNat_Int, SV.ren, SV.renL, Cell.ren, Row.ren, renO, bk, back, outUpsFrom, Ints_ren])
    | (apply cl_show
       case ha => (simp only [List.map_cons, List.map_nil, prepV, prepC, idx, hpL', lookR, Nat.reduceEqDiff, if_true, if_false]; rfl)
       case hs => ((simp [snaps, SV.refs, Cell.refs, idx, hpL', lookR]) <;> (repeat' apply And.intro) <;> exact Ints_isG _)
       case h => (first | exact rvalid_spec (.mk _ _ _ _ _))
       case hg => ((simp [SV.noG, SV.noGL, Cell.noG]) <;> (repeat' apply And.intro) <;> exact Ints_noG _)
       case' hk => simp only [bkc, go_sem, Nat.reduceEqDiff, Nat.reduceAdd, Nat.reduceSub, Nat.reduceMul, Nat.reduceLT, Nat.reduceLeDiff, ↓reduceIte, reduceCtorEq, List.reduceReplicate, Int.cast_ofNat_Int, SV.ren, SV.renL, Cell.ren, Row.ren, renO, bk, back, outUpsFrom, Ints_ren])
    | (apply cl_use
       case hr => (simp only [List.map_cons, List.map_nil, hpL', lookR, Nat.reduceEqDiff, if_true, if_false]; first | exact map0 | exact map1 _ | exact map2 _ _ | exact map3 _ _ _)
       case ha => (simp only [List.map_cons, List.map_nil, prepV, prepC, idx, hpL', lookR, Nat.reduceEqDiff, if_true, if_false]; rfl)
       case hs => (simp only [snaps, SV.refs, Cell.refs, idx, List.flatMap_cons, List.flatMap_nil, List.nil_append, List.cons_append, List.append_nil, List.filter_cons, List.filter_nil, Nat.reduceEqDiff, if_true, if_false, Option.isNone_none, Option.isNone_some, Bool.false_eq_true, reduceCtorEq, ↓reduceIte]; rfl)
       case hn => decide
       case h => (first | exact rvalid_spec (.mk _ _ _ _ _))
       case hf => (simp only [List.forall_mem_cons, List.not_mem_nil, false_implies, implies_true, and_true, true_and, flat_cons, flat_nil, flat_ints, flat_app, Cell.refs, and_self, eq_self_iff_true, List.append_nil])
       case hg => ((simp [hpL', lookR, Cell.isG]) <;> (repeat' apply And.intro) <;> exact Ints_isG _)
       case hl => (simp only [List.length_cons, List.length_nil]; decide)
       case' hk => simp only [bkc, go_sem, Nat.reduceEqDiff, Nat.reduceAdd, Nat.reduceSub, Nat.reduceMul, Nat.reduceLT, Nat.reduceLeDiff, ↓reduceIte, reduceCtorEq, List.reduceReplicate, Int.cast_ofNat_Int, SV.ren, SV.renL, Cell.ren, Row.ren, renO, bk, back, outUpsFrom, Ints_ren])
    | (apply fs_nil <;> (try simp only [go_sem, resV, resS, SV.ren, SV.renL, Cell.ren, St.tmF, St.hpF, idx, renO, Row.ren, evS, slot, lookR, Nat.reduceEqDiff, ↓reduceIte, reduceCtorEq, if_true, if_false, Option.getD_some, Option.getD_none, List.map_cons, List.map_nil, sLoad, readAt, readNeed, Ints_ren, Ints_length, Ints_getD, and_true, true_and, List.getD_cons_zero, List.getD_cons_succ]) <;> (try rfl)))
  all_goals
    simp only [Bool.not_eq_true', Bool.not_eq_false', decide_eq_true_eq, decide_eq_false_iff_not, Bool.or_eq_true, Bool.or_eq_false_iff, Bool.and_eq_true] at *
    try rw [bvalid_iff] at h
    try rw [bvalid_no] at h
    first
    | (have := mul_rng (a := s) (b := p) (A := 1073741824) (B := 1048576) (by omega) (by omega) (by omega) (by omega)
       omega)
    | (unfold bnew bn0
       rw [if_pos (by rw [bvalid_no]; split <;> omega)]
       rfl)
    | (unfold bnew bn0
       rw [if_neg (by rw [Bool.not_eq_false, bvalid_iff]; split <;> omega)]
       first
       | (rw [if_pos (show r = 4611686018427387904 by assumption)]; done)
       | (rw [if_neg (show ¬ r = 4611686018427387904 by assumption)]; done))
theorem radv_spec (b : Bk) (now : Int) : FnSpec Try.prog 26 [bkt b, i1 now] [] (bre (badv b now)) [] := by
  obtain ⟨r, p, s, l, t⟩ := b
  refine fnspec_of mixed TT_ok TT_cl ⟨fun _ => false, fun _ => [], 0, fun _ => false, fun _ => false⟩ Try.func26 rfl (by kernel_rfl) rfl 48 rfl [.cell 4 24, .tmp 5] rfl ?_
  simp only [go_sem, Nat.reduceEqDiff, Nat.reduceAdd, Nat.reduceSub, Nat.reduceMul, Nat.reduceLT, Nat.reduceLeDiff, ↓reduceIte, reduceCtorEq, List.reduceReplicate, Int.cast_ofNat_Int, bkc]
  repeat' (first
    | with_reducible refine And.intro ?_ ?_
    | (unfold OKC; kernel_rfl)
    | (apply okc_up <;> (first | ((repeat (first | exact Sub.nil | apply Sub.gfp | apply Sub.same)); done) | kernel_rfl))
    | (unfold EDG; kernel_rfl)
    | (intros; (try simp only [Bool.and_eq_true, Bool.or_eq_true, Bool.not_eq_true', Bool.not_eq_false', Bool.and_eq_false_iff, Bool.or_eq_false_iff, decide_eq_true_eq, decide_eq_false_iff_not] at *); omega)
    | (refine cd_if (fun h => ?_) (fun h => ?_) <;> (first | (simp only [h, bkc, go_sem, Nat.reduceEqDiff, Nat.reduceAdd, Nat.reduceSub, Nat.reduceMul, Nat.reduceLT, Nat.reduceLeDiff, ↓reduceIte, reduceCtorEq, List.reduceReplicate, Int.cast_ofNat_Int]; done) | simp only [h, bkc, go_sem, Nat.reduceEqDiff, Nat.reduceAdd, Nat.reduceSub, Nat.reduceMul, Nat.reduceLT, Nat.reduceLeDiff, ↓reduceIte, reduceCtorEq, List.reduceReplicate, Int.cast_ofNat_Int] | skip))
    | (apply cg_tp
       case hl => rfl
       case ha => (simp only [List.map_cons, List.map_nil, prepV, prepC, idx, hpL', lookR, Nat.reduceEqDiff, if_true, if_false]; rfl)
       case hs => rfl
       case h => (first | exact rvalid_spec (.mk _ _ _ _ _))
       case' hk => simp only [bkc, go_sem, Nat.reduceEqDiff, Nat.reduceAdd, Nat.reduceSub, Nat.reduceMul, Nat.reduceLT, Nat.reduceLeDiff, ↓reduceIte, reduceCtorEq, List.reduceReplicate, Int.cast_ofNat_Int, SV.ren, SV.renL, Cell.ren])
    | (apply cg_ts
       case hl => rfl
       case ha => (simp only [List.map_cons, List.map_nil, prepV, prepC, idx, hpL', lookR, Nat.reduceEqDiff, if_true, if_false]; rfl)
       case hs => (simp only [snaps_nil, List.flatMap_cons, List.flatMap_nil, SV.refs, Cell.refs, List.nil_append, List.cons_append, List.append_nil]; rfl)
       case h => (first | exact rvalid_spec (.mk _ _ _ _ _))
       case hf => ((simp only [List.forall_mem_cons, List.not_mem_nil, false_implies, implies_true, and_true, hpL', lookR, Nat.reduceEqDiff, if_true, if_false]) <;> (repeat' apply And.intro) <;> exact ⟨_, rfl, Ints_isG _⟩)
       case hg => simp [SV.noG, SV.noGL, Cell.noG]
       case' hk => simp only [bkc, go_sem, Nat.reduceEqDiff, Nat.reduceAdd, Nat.reduceSub, Nat.reduceMul, Nat.reduceLT, Nat.reduceLeDiff, ↓reduceIte, reduceCtorEq, List.reduceReplicate, Int.cast_ofNat_Int, SV.ren, SV.renL, Cell.ren])
    | (apply cg_any
       case hl => rfl
       case ha => (intro hb; simp only [List.map_cons, List.map_nil, cnd, hb, if_true, prepV, prepC, idx, hpL', lookR, Nat.reduceEqDiff, if_false]; rfl)
       case hs => (intro hb; simp only [cnd, hb, if_true]; rfl)
       case h => (first | exact rvalid_spec (.mk _ _ _ _ _))
       case' hk => simp only [bkc, go_sem, Nat.reduceEqDiff, Nat.reduceAdd, Nat.reduceSub, Nat.reduceMul, Nat.reduceLT, Nat.reduceLeDiff, ↓reduceIte, reduceCtorEq, List.reduceReplicate, Int.cast_ofNat_Int, SV.ren, SV.renL, Cell.ren])
    | (apply cg_show
       case hl => rfl
       case ha => (intro hb; simp only [List.map_cons, List.map_nil, cnd, hb, if_true, prepV, prepC, idx, hpL', lookR, Nat.reduceEqDiff, if_false]; rfl)
       case hs => (intro hb; simp only [cnd, hb, if_true, snaps_nil, List.flatMap_cons, List.flatMap_nil, SV.refs, Cell.refs, List.nil_append, List.cons_append, List.append_nil]; rfl)
       case h => (first | exact rvalid_spec (.mk _ _ _ _ _))
       case hf => ((simp only [List.forall_mem_cons, List.not_mem_nil, false_implies, implies_true, and_true, hpL', lookR, Nat.reduceEqDiff, if_true, if_false]) <;> (repeat' apply And.intro) <;> exact ⟨_, rfl, Ints_isG _⟩)
       case hg => simp [SV.noG, SV.noGL, Cell.noG]
       case' hk => simp only [bkc, go_sem, Nat.reduceEqDiff, Nat.reduceAdd, Nat.reduceSub, Nat.reduceMul, Nat.reduceLT, Nat.reduceLeDiff, ↓reduceIte, reduceCtorEq, List.reduceReplicate, Int.cast_ofNat_Int, SV.ren, SV.renL, Cell.ren])
    | (apply cl_plain
       case hs => rfl
       case ha => (simp only [List.map_cons, List.map_nil, prepV, prepC, idx, hpL', lookR, Nat.reduceEqDiff, if_true, if_false]; rfl)
       case h => (first | exact rvalid_spec (.mk _ _ _ _ _))
       case' hk => simp only [bkc, go_sem, Nat.reduceEqDiff, Nat.reduceAdd, Nat.reduceSub, Nat.reduceMul, Nat.reduceLT, Nat.reduceLeDiff, ↓reduceIte, reduceCtorEq, List.reduceReplicate, Int.cast_ofNat_Int, SV.ren, SV.renL, Cell.ren, Row.ren, renO, bk, back, outUpsFrom, Ints_ren])
    | (apply cl_lend
       case hr => (simp only [List.map_cons, List.map_nil, hpL', lookR, Nat.reduceEqDiff, if_true, if_false]; first | exact map1 _ | exact map2 _ _ | exact map3 _ _ _)
       case ha => (simp only [List.map_cons, List.map_nil, prepV, prepC, idx, hpL', lookR, Nat.reduceEqDiff, if_true, if_false]; rfl)
       case hs => rfl
       case hn => decide
       case h => (first | exact rvalid_spec (.mk _ _ _ _ _))
       case hf => (simp only [List.forall_mem_cons, List.not_mem_nil, false_implies, implies_true, and_true, true_and, flat_cons, flat_nil, flat_ints, flat_app, Cell.refs, and_self, eq_self_iff_true, List.append_nil])
       case hl => (simp only [List.length_cons, List.length_nil]; decide)
       case' hk => simp only [bkc, go_sem, Nat.reduceEqDiff, Nat.reduceAdd, Nat.reduceSub, Nat.reduceMul, Nat.reduceLT, Nat.reduceLeDiff, ↓reduceIte, reduceCtorEq, List.reduceReplicate, Int.cast_ofNat_Int, SV.ren, SV.renL, Cell.ren, Row.ren, renO, bk, back, outUpsFrom, Ints_ren])
    | (apply cl_show
       case ha => (simp only [List.map_cons, List.map_nil, prepV, prepC, idx, hpL', lookR, Nat.reduceEqDiff, if_true, if_false]; rfl)
       case hs => ((simp [snaps, SV.refs, Cell.refs, idx, hpL', lookR]) <;> (repeat' apply And.intro) <;> exact Ints_isG _)
       case h => (first | exact rvalid_spec (.mk _ _ _ _ _))
       case hg => ((simp [SV.noG, SV.noGL, Cell.noG]) <;> (repeat' apply And.intro) <;> exact Ints_noG _)
       case' hk => simp only [bkc, go_sem, Nat.reduceEqDiff, Nat.reduceAdd, Nat.reduceSub, Nat.reduceMul, Nat.reduceLT, Nat.reduceLeDiff, ↓reduceIte, reduceCtorEq, List.reduceReplicate, Int.cast_ofNat_Int, SV.ren, SV.renL, Cell.ren, Row.ren, renO, bk, back, outUpsFrom, Ints_ren])
    | (apply cl_use
       case hr => (simp only [List.map_cons, List.map_nil, hpL', lookR, Nat.reduceEqDiff, if_true, if_false]; first | exact map0 | exact map1 _ | exact map2 _ _ | exact map3 _ _ _)
       case ha => (simp only [List.map_cons, List.map_nil, prepV, prepC, idx, hpL', lookR, Nat.reduceEqDiff, if_true, if_false]; rfl)
       case hs => (simp only [snaps, SV.refs, Cell.refs, idx, List.flatMap_cons, List.flatMap_nil, List.nil_append, List.cons_append, List.append_nil, List.filter_cons, List.filter_nil, Nat.reduceEqDiff, if_true, if_false, Option.isNone_none, Option.isNone_some, Bool.false_eq_true, reduceCtorEq, ↓reduceIte]; rfl)
       case hn => decide
       case h => (first | exact rvalid_spec (.mk _ _ _ _ _))
       case hf => (simp only [List.forall_mem_cons, List.not_mem_nil, false_implies, implies_true, and_true, true_and, flat_cons, flat_nil, flat_ints, flat_app, Cell.refs, and_self, eq_self_iff_true, List.append_nil])
       case hg => ((simp [hpL', lookR, Cell.isG]) <;> (repeat' apply And.intro) <;> exact Ints_isG _)
       case hl => (simp only [List.length_cons, List.length_nil]; decide)
       case' hk => simp only [bkc, go_sem, Nat.reduceEqDiff, Nat.reduceAdd, Nat.reduceSub, Nat.reduceMul, Nat.reduceLT, Nat.reduceLeDiff, ↓reduceIte, reduceCtorEq, List.reduceReplicate, Int.cast_ofNat_Int, SV.ren, SV.renL, Cell.ren, Row.ren, renO, bk, back, outUpsFrom, Ints_ren])
    | (apply fs_nil <;> (try simp only [go_sem, resV, resS, SV.ren, SV.renL, Cell.ren, St.tmF, St.hpF, idx, renO, Row.ren, evS, slot, lookR, Nat.reduceEqDiff, ↓reduceIte, reduceCtorEq, if_true, if_false, Option.getD_some, Option.getD_none, List.map_cons, List.map_nil, sLoad, readAt, readNeed, Ints_ren, Ints_length, Ints_getD, and_true, true_and, List.getD_cons_zero, List.getD_cons_succ]) <;> (try rfl)))
  all_goals
    simp only [Bool.not_eq_true', Bool.not_eq_false', decide_eq_true_eq, decide_eq_false_iff_not, Bool.or_eq_true, Bool.or_eq_false_iff, Bool.and_eq_true] at *
    first
    | (simp only [badv, badvL, wi_no, bopen_eq, bz, *, eq_self, ne_eq, not_true_eq_false, not_false_eq_true, if_true, if_false, Bool.false_eq_true, Bool.true_eq_false, or_true, true_or, or_false, false_or, and_true, true_and, and_false, false_and, or_self, and_self]; done)
    | (have hr : r = 4611686018427387904 := by assumption
       subst hr
       (simp only [badv, badvL, wi_no, bopen_eq, bz, *, eq_self, ne_eq, not_true_eq_false, not_false_eq_true, if_true, if_false, Bool.false_eq_true, Bool.true_eq_false, or_true, true_or, or_false, false_or, and_true, true_and, and_false, false_and, or_self, and_self]; done))
    | (have e : (if l + r * (now - t) < s * p then l + r * (now - t) else s * p) = if s * p < l + r * (now - t) then s * p else l + r * (now - t) := by split <;> split <;> omega
       rw [e]
       (simp only [badv, badvL, wi_no, bopen_eq, bz, *, eq_self, ne_eq, not_true_eq_false, not_false_eq_true, if_true, if_false, Bool.false_eq_true, Bool.true_eq_false, or_true, true_or, or_false, false_or, and_true, true_and, and_false, false_and, or_self, and_self]; done))
    | (have hv := bv_iff (b := ⟨r, p, s, l, t⟩) (by assumption)
       simp only at hv
       first
       | omega
       | (have hv := bv_shut (b := ⟨r, p, s, l, t⟩) (by assumption) (bopen_no.2 (by assumption))
          simp only at hv
          have hq := mul_rng (a := r) (b := now - t) (A := 1073741824) (B := 1048576) (by omega) (by omega) (by omega) (by omega)
          omega))
theorem rtok_spec (b : Bk) : FnSpec Try.prog 24 [bkt b] [] (i1 (btok b)) [] := by
  obtain ⟨r, p, s, l, t⟩ := b
  refine fnspec_of mixed TT_ok TT_cl ⟨fun _ => false, fun _ => [], 0, fun _ => false, fun _ => false⟩ Try.func24 rfl (by kernel_rfl) rfl 16 rfl [.tmp 2] rfl ?_
  simp only [go_sem, Nat.reduceEqDiff, Nat.reduceAdd, Nat.reduceSub, Nat.reduceMul, Nat.reduceLT, Nat.reduceLeDiff, ↓reduceIte, reduceCtorEq, List.reduceReplicate, Int.cast_ofNat_Int, bkc]
  repeat' (first
    | with_reducible refine And.intro ?_ ?_
    | (unfold OKC; kernel_rfl)
    | (apply okc_up <;> (first | ((repeat (first | exact Sub.nil | apply Sub.gfp | apply Sub.same)); done) | kernel_rfl))
    | (unfold EDG; kernel_rfl)
    | (intros; (try simp only [Bool.and_eq_true, Bool.or_eq_true, Bool.not_eq_true', Bool.not_eq_false', Bool.and_eq_false_iff, Bool.or_eq_false_iff, decide_eq_true_eq, decide_eq_false_iff_not] at *); omega)
    | (refine cd_if (fun h => ?_) (fun h => ?_) <;> (first | (simp only [h, bkc, go_sem, Nat.reduceEqDiff, Nat.reduceAdd, Nat.reduceSub, Nat.reduceMul, Nat.reduceLT, Nat.reduceLeDiff, ↓reduceIte, reduceCtorEq, List.reduceReplicate, Int.cast_ofNat_Int]; done) | simp only [h, bkc, go_sem, Nat.reduceEqDiff, Nat.reduceAdd, Nat.reduceSub, Nat.reduceMul, Nat.reduceLT, Nat.reduceLeDiff, ↓reduceIte, reduceCtorEq, List.reduceReplicate, Int.cast_ofNat_Int] | skip))
    | (apply cg_tp
       case hl => rfl
       case ha => (simp only [List.map_cons, List.map_nil, prepV, prepC, idx, hpL', lookR, Nat.reduceEqDiff, if_true, if_false]; rfl)
       case hs => rfl
       case h => (first | exact rvalid_spec (.mk _ _ _ _ _))
       case' hk => simp only [bkc, go_sem, Nat.reduceEqDiff, Nat.reduceAdd, Nat.reduceSub, Nat.reduceMul, Nat.reduceLT, Nat.reduceLeDiff, ↓reduceIte, reduceCtorEq, List.reduceReplicate, Int.cast_ofNat_Int, SV.ren, SV.renL, Cell.ren])
    | (apply cg_ts
       case hl => rfl
       case ha => (simp only [List.map_cons, List.map_nil, prepV, prepC, idx, hpL', lookR, Nat.reduceEqDiff, if_true, if_false]; rfl)
       case hs => (simp only [snaps_nil, List.flatMap_cons, List.flatMap_nil, SV.refs, Cell.refs, List.nil_append, List.cons_append, List.append_nil]; rfl)
       case h => (first | exact rvalid_spec (.mk _ _ _ _ _))
       case hf => ((simp only [List.forall_mem_cons, List.not_mem_nil, false_implies, implies_true, and_true, hpL', lookR, Nat.reduceEqDiff, if_true, if_false]) <;> (repeat' apply And.intro) <;> exact ⟨_, rfl, Ints_isG _⟩)
       case hg => simp [SV.noG, SV.noGL, Cell.noG]
       case' hk => simp only [bkc, go_sem, Nat.reduceEqDiff, Nat.reduceAdd, Nat.reduceSub, Nat.reduceMul, Nat.reduceLT, Nat.reduceLeDiff, ↓reduceIte, reduceCtorEq, List.reduceReplicate, Int.cast_ofNat_Int, SV.ren, SV.renL, Cell.ren])
    | (apply cg_any
       case hl => rfl
       case ha => (intro hb; simp only [List.map_cons, List.map_nil, cnd, hb, if_true, prepV, prepC, idx, hpL', lookR, Nat.reduceEqDiff, if_false]; rfl)
       case hs => (intro hb; simp only [cnd, hb, if_true]; rfl)
       case h => (first | exact rvalid_spec (.mk _ _ _ _ _))
       case' hk => simp only [bkc, go_sem, Nat.reduceEqDiff, Nat.reduceAdd, Nat.reduceSub, Nat.reduceMul, Nat.reduceLT, Nat.reduceLeDiff, ↓reduceIte, reduceCtorEq, List.reduceReplicate, Int.cast_ofNat_Int, SV.ren, SV.renL, Cell.ren])
    | (apply cg_show
       case hl => rfl
       case ha => (intro hb; simp only [List.map_cons, List.map_nil, cnd, hb, if_true, prepV, prepC, idx, hpL', lookR, Nat.reduceEqDiff, if_false]; rfl)
       case hs => (intro hb; simp only [cnd, hb, if_true, snaps_nil, List.flatMap_cons, List.flatMap_nil, SV.refs, Cell.refs, List.nil_append, List.cons_append, List.append_nil]; rfl)
       case h => (first | exact rvalid_spec (.mk _ _ _ _ _))
       case hf => ((simp only [List.forall_mem_cons, List.not_mem_nil, false_implies, implies_true, and_true, hpL', lookR, Nat.reduceEqDiff, if_true, if_false]) <;> (repeat' apply And.intro) <;> exact ⟨_, rfl, Ints_isG _⟩)
       case hg => simp [SV.noG, SV.noGL, Cell.noG]
       case' hk => simp only [bkc, go_sem, Nat.reduceEqDiff, Nat.reduceAdd, Nat.reduceSub, Nat.reduceMul, Nat.reduceLT, Nat.reduceLeDiff, ↓reduceIte, reduceCtorEq, List.reduceReplicate, Int.cast_ofNat_Int, SV.ren, SV.renL, Cell.ren])
    | (apply cl_plain
       case hs => rfl
       case ha => (simp only [List.map_cons, List.map_nil, prepV, prepC, idx, hpL', lookR, Nat.reduceEqDiff, if_true, if_false]; rfl)
       case h => (first | exact rvalid_spec (.mk _ _ _ _ _))
       case' hk => simp only [bkc, go_sem, Nat.reduceEqDiff, Nat.reduceAdd, Nat.reduceSub, Nat.reduceMul, Nat.reduceLT, Nat.reduceLeDiff, ↓reduceIte, reduceCtorEq, List.reduceReplicate, Int.cast_ofNat_Int, SV.ren, SV.renL, Cell.ren, Row.ren, renO, bk, back, outUpsFrom, Ints_ren])
    | (apply cl_lend
       case hr => (simp only [List.map_cons, List.map_nil, hpL', lookR, Nat.reduceEqDiff, if_true, if_false]; first | exact map1 _ | exact map2 _ _ | exact map3 _ _ _)
       case ha => (simp only [List.map_cons, List.map_nil, prepV, prepC, idx, hpL', lookR, Nat.reduceEqDiff, if_true, if_false]; rfl)
       case hs => rfl
       case hn => decide
       case h => (first | exact rvalid_spec (.mk _ _ _ _ _))
       case hf => (simp only [List.forall_mem_cons, List.not_mem_nil, false_implies, implies_true, and_true, true_and, flat_cons, flat_nil, flat_ints, flat_app, Cell.refs, and_self, eq_self_iff_true, List.append_nil])
       case hl => (simp only [List.length_cons, List.length_nil]; decide)
       case' hk => simp only [bkc, go_sem, Nat.reduceEqDiff, Nat.reduceAdd, Nat.reduceSub, Nat.reduceMul, Nat.reduceLT, Nat.reduceLeDiff, ↓reduceIte, reduceCtorEq, List.reduceReplicate, Int.cast_ofNat_Int, SV.ren, SV.renL, Cell.ren, Row.ren, renO, bk, back, outUpsFrom, Ints_ren])
    | (apply cl_show
       case ha => (simp only [List.map_cons, List.map_nil, prepV, prepC, idx, hpL', lookR, Nat.reduceEqDiff, if_true, if_false]; rfl)
       case hs => ((simp [snaps, SV.refs, Cell.refs, idx, hpL', lookR]) <;> (repeat' apply And.intro) <;> exact Ints_isG _)
       case h => (first | exact rvalid_spec (.mk _ _ _ _ _))
       case hg => ((simp [SV.noG, SV.noGL, Cell.noG]) <;> (repeat' apply And.intro) <;> exact Ints_noG _)
       case' hk => simp only [bkc, go_sem, Nat.reduceEqDiff, Nat.reduceAdd, Nat.reduceSub, Nat.reduceMul, Nat.reduceLT, Nat.reduceLeDiff, ↓reduceIte, reduceCtorEq, List.reduceReplicate, Int.cast_ofNat_Int, SV.ren, SV.renL, Cell.ren, Row.ren, renO, bk, back, outUpsFrom, Ints_ren])
    | (apply cl_use
       case hr => (simp only [List.map_cons, List.map_nil, hpL', lookR, Nat.reduceEqDiff, if_true, if_false]; first | exact map0 | exact map1 _ | exact map2 _ _ | exact map3 _ _ _)
       case ha => (simp only [List.map_cons, List.map_nil, prepV, prepC, idx, hpL', lookR, Nat.reduceEqDiff, if_true, if_false]; rfl)
       case hs => (simp only [snaps, SV.refs, Cell.refs, idx, List.flatMap_cons, List.flatMap_nil, List.nil_append, List.cons_append, List.append_nil, List.filter_cons, List.filter_nil, Nat.reduceEqDiff, if_true, if_false, Option.isNone_none, Option.isNone_some, Bool.false_eq_true, reduceCtorEq, ↓reduceIte]; rfl)
       case hn => decide
       case h => (first | exact rvalid_spec (.mk _ _ _ _ _))
       case hf => (simp only [List.forall_mem_cons, List.not_mem_nil, false_implies, implies_true, and_true, true_and, flat_cons, flat_nil, flat_ints, flat_app, Cell.refs, and_self, eq_self_iff_true, List.append_nil])
       case hg => ((simp [hpL', lookR, Cell.isG]) <;> (repeat' apply And.intro) <;> exact Ints_isG _)
       case hl => (simp only [List.length_cons, List.length_nil]; decide)
       case' hk => simp only [bkc, go_sem, Nat.reduceEqDiff, Nat.reduceAdd, Nat.reduceSub, Nat.reduceMul, Nat.reduceLT, Nat.reduceLeDiff, ↓reduceIte, reduceCtorEq, List.reduceReplicate, Int.cast_ofNat_Int, SV.ren, SV.renL, Cell.ren, Row.ren, renO, bk, back, outUpsFrom, Ints_ren])
    | (apply fs_nil <;> (try simp only [go_sem, resV, resS, SV.ren, SV.renL, Cell.ren, St.tmF, St.hpF, idx, renO, Row.ren, evS, slot, lookR, Nat.reduceEqDiff, ↓reduceIte, reduceCtorEq, if_true, if_false, Option.getD_some, Option.getD_none, List.map_cons, List.map_nil, sLoad, readAt, readNeed, Ints_ren, Ints_length, Ints_getD, and_true, true_and, List.getD_cons_zero, List.getD_cons_succ]) <;> (try rfl)))
  all_goals
    simp only [Bool.not_eq_true', Bool.not_eq_false', decide_eq_true_eq, decide_eq_false_iff_not, Bool.or_eq_true, Bool.or_eq_false_iff, Bool.and_eq_true] at *
    first
    | (simp only [btok, bopen_eq, *, eq_self, ne_eq, not_true_eq_false, not_false_eq_true, if_true, if_false, Bool.false_eq_true, Bool.true_eq_false, or_true, true_or, or_false, false_or, and_true, true_and, and_false, false_and, or_self, and_self]; done)
    | (have hr : r = 4611686018427387904 := by assumption
       subst hr
       (simp only [btok, bopen_eq, *, eq_self, ne_eq, not_true_eq_false, not_false_eq_true, if_true, if_false, Bool.false_eq_true, Bool.true_eq_false, or_true, true_or, or_false, false_or, and_true, true_and, and_false, false_and, or_self, and_self]; done))
    | (have hv := bv_shut (b := ⟨r, p, s, l, t⟩) (by assumption) (bopen_no.2 (by assumption))
       simp only at hv
       have h1 := Int.tdiv_nonneg (a := l) (b := p) (by omega) (by omega)
       have h2 : l.tdiv p ≤ l := by
         rw [Int.tdiv_eq_ediv_of_nonneg (by omega)]
         exact Int.ediv_le_self _ (by omega)
       omega)
theorem rtake_spec (b : Bk) (now n : Int) : FnSpec Try.prog 23 [bkt b, i1 now, i1 n] [] (bre (btake b now n)) [] := by
  have ha := radv_spec b now
  have hok : (badv b now).2 = 0 → bvalid (badv b now).1 = true := fun h => (badv_ok h).1
  have hb : btake b now n = if (badv b now).2 ≠ 0 then (bz, (badv b now).2) else if wi n 0 1073741824 = false then (bz, 3) else if btok (badv b now).1 < n then ((badv b now).1, 11) else if bopen (badv b now).1 = true then ((badv b now).1, 0) else ({ (badv b now).1 with l := (badv b now).1.l - n * (badv b now).1.p }, 0) := rfl
  generalize btake b now n = y at *
  generalize badv b now = x at *
  obtain ⟨r, p, s, l, t⟩ := b
  obtain ⟨⟨r', p', s', l', t'⟩, e⟩ := x
  simp only [bre, bkc] at ha hok ⊢
  refine fnspec_of mixed TT_ok TT_cl ⟨fun _ => false, fun _ => [], 0, fun _ => false, fun _ => false⟩ Try.func23 rfl (by kernel_rfl) rfl 48 rfl [.cell 6 24, .tmp 7] rfl ?_
  simp only [go_sem, Nat.reduceEqDiff, Nat.reduceAdd, Nat.reduceSub, Nat.reduceMul, Nat.reduceLT, Nat.reduceLeDiff, ↓reduceIte, reduceCtorEq, List.reduceReplicate, Int.cast_ofNat_Int, bkc]
  repeat' (first
    | with_reducible refine And.intro ?_ ?_
    | (unfold OKC; kernel_rfl)
    | (apply okc_up <;> (first | ((repeat (first | exact Sub.nil | apply Sub.gfp | apply Sub.same)); done) | kernel_rfl))
    | (unfold EDG; kernel_rfl)
    | (intros; (try simp only [Bool.and_eq_true, Bool.or_eq_true, Bool.not_eq_true', Bool.not_eq_false', Bool.and_eq_false_iff, Bool.or_eq_false_iff, decide_eq_true_eq, decide_eq_false_iff_not] at *); omega)
    | (refine cd_if (fun h => ?_) (fun h => ?_) <;> (first | (simp only [h, bkc, go_sem, Nat.reduceEqDiff, Nat.reduceAdd, Nat.reduceSub, Nat.reduceMul, Nat.reduceLT, Nat.reduceLeDiff, ↓reduceIte, reduceCtorEq, List.reduceReplicate, Int.cast_ofNat_Int]; done) | simp only [h, bkc, go_sem, Nat.reduceEqDiff, Nat.reduceAdd, Nat.reduceSub, Nat.reduceMul, Nat.reduceLT, Nat.reduceLeDiff, ↓reduceIte, reduceCtorEq, List.reduceReplicate, Int.cast_ofNat_Int] | skip))
    | (apply cg_tp
       case hl => rfl
       case ha => (simp only [List.map_cons, List.map_nil, prepV, prepC, idx, hpL', lookR, Nat.reduceEqDiff, if_true, if_false]; rfl)
       case hs => rfl
       case h => (first | exact ha .. | exact rtok_spec (.mk _ _ _ _ _) | exact rvalid_spec (.mk _ _ _ _ _))
       case' hk => simp only [bkc, go_sem, Nat.reduceEqDiff, Nat.reduceAdd, Nat.reduceSub, Nat.reduceMul, Nat.reduceLT, Nat.reduceLeDiff, ↓reduceIte, reduceCtorEq, List.reduceReplicate, Int.cast_ofNat_Int, SV.ren, SV.renL, Cell.ren])
    | (apply cg_ts
       case hl => rfl
       case ha => (simp only [List.map_cons, List.map_nil, prepV, prepC, idx, hpL', lookR, Nat.reduceEqDiff, if_true, if_false]; rfl)
       case hs => (simp only [snaps_nil, List.flatMap_cons, List.flatMap_nil, SV.refs, Cell.refs, List.nil_append, List.cons_append, List.append_nil]; rfl)
       case h => (first | exact ha .. | exact rtok_spec (.mk _ _ _ _ _) | exact rvalid_spec (.mk _ _ _ _ _))
       case hf => ((simp only [List.forall_mem_cons, List.not_mem_nil, false_implies, implies_true, and_true, hpL', lookR, Nat.reduceEqDiff, if_true, if_false]) <;> (repeat' apply And.intro) <;> exact ⟨_, rfl, Ints_isG _⟩)
       case hg => simp [SV.noG, SV.noGL, Cell.noG]
       case' hk => simp only [bkc, go_sem, Nat.reduceEqDiff, Nat.reduceAdd, Nat.reduceSub, Nat.reduceMul, Nat.reduceLT, Nat.reduceLeDiff, ↓reduceIte, reduceCtorEq, List.reduceReplicate, Int.cast_ofNat_Int, SV.ren, SV.renL, Cell.ren])
    | (apply cg_any
       case hl => rfl
       case ha => (intro hb; simp only [List.map_cons, List.map_nil, cnd, hb, if_true, prepV, prepC, idx, hpL', lookR, Nat.reduceEqDiff, if_false]; rfl)
       case hs => (intro hb; simp only [cnd, hb, if_true]; rfl)
       case h => (first | exact ha .. | exact rtok_spec (.mk _ _ _ _ _) | exact rvalid_spec (.mk _ _ _ _ _))
       case' hk => simp only [bkc, go_sem, Nat.reduceEqDiff, Nat.reduceAdd, Nat.reduceSub, Nat.reduceMul, Nat.reduceLT, Nat.reduceLeDiff, ↓reduceIte, reduceCtorEq, List.reduceReplicate, Int.cast_ofNat_Int, SV.ren, SV.renL, Cell.ren])
    | (apply cg_show
       case hl => rfl
       case ha => (intro hb; simp only [List.map_cons, List.map_nil, cnd, hb, if_true, prepV, prepC, idx, hpL', lookR, Nat.reduceEqDiff, if_false]; rfl)
       case hs => (intro hb; simp only [cnd, hb, if_true, snaps_nil, List.flatMap_cons, List.flatMap_nil, SV.refs, Cell.refs, List.nil_append, List.cons_append, List.append_nil]; rfl)
       case h => (first | exact ha .. | exact rtok_spec (.mk _ _ _ _ _) | exact rvalid_spec (.mk _ _ _ _ _))
       case hf => ((simp only [List.forall_mem_cons, List.not_mem_nil, false_implies, implies_true, and_true, hpL', lookR, Nat.reduceEqDiff, if_true, if_false]) <;> (repeat' apply And.intro) <;> exact ⟨_, rfl, Ints_isG _⟩)
       case hg => simp [SV.noG, SV.noGL, Cell.noG]
       case' hk => simp only [bkc, go_sem, Nat.reduceEqDiff, Nat.reduceAdd, Nat.reduceSub, Nat.reduceMul, Nat.reduceLT, Nat.reduceLeDiff, ↓reduceIte, reduceCtorEq, List.reduceReplicate, Int.cast_ofNat_Int, SV.ren, SV.renL, Cell.ren])
    | (apply cl_plain
       case hs => rfl
       case ha => (simp only [List.map_cons, List.map_nil, prepV, prepC, idx, hpL', lookR, Nat.reduceEqDiff, if_true, if_false]; rfl)
       case h => (first | exact ha .. | exact rtok_spec (.mk _ _ _ _ _) | exact rvalid_spec (.mk _ _ _ _ _))
       case' hk => simp only [bkc, go_sem, Nat.reduceEqDiff, Nat.reduceAdd, Nat.reduceSub, Nat.reduceMul, Nat.reduceLT, Nat.reduceLeDiff, ↓reduceIte, reduceCtorEq, List.reduceReplicate, Int.cast_ofNat_Int, SV.ren, SV.renL, Cell.ren, Row.ren, renO, bk, back, outUpsFrom, Ints_ren])
    | (apply cl_lend
       case hr => (simp only [List.map_cons, List.map_nil, hpL', lookR, Nat.reduceEqDiff, if_true, if_false]; first | exact map1 _ | exact map2 _ _ | exact map3 _ _ _)
       case ha => (simp only [List.map_cons, List.map_nil, prepV, prepC, idx, hpL', lookR, Nat.reduceEqDiff, if_true, if_false]; rfl)
       case hs => rfl
       case hn => decide
       case h => (first | exact ha .. | exact rtok_spec (.mk _ _ _ _ _) | exact rvalid_spec (.mk _ _ _ _ _))
       case hf => (simp only [List.forall_mem_cons, List.not_mem_nil, false_implies, implies_true, and_true, true_and, flat_cons, flat_nil, flat_ints, flat_app, Cell.refs, and_self, eq_self_iff_true, List.append_nil])
       case hl => (simp only [List.length_cons, List.length_nil]; decide)
       case' hk => simp only [bkc, go_sem, Nat.reduceEqDiff, Nat.reduceAdd, Nat.reduceSub, Nat.reduceMul, Nat.reduceLT, Nat.reduceLeDiff, ↓reduceIte, reduceCtorEq, List.reduceReplicate, Int.cast_ofNat_Int, SV.ren, SV.renL, Cell.ren, Row.ren, renO, bk, back, outUpsFrom, Ints_ren])
    | (apply cl_show
       case ha => (simp only [List.map_cons, List.map_nil, prepV, prepC, idx, hpL', lookR, Nat.reduceEqDiff, if_true, if_false]; rfl)
       case hs => ((simp [snaps, SV.refs, Cell.refs, idx, hpL', lookR]) <;> (repeat' apply And.intro) <;> exact Ints_isG _)
       case h => (first | exact ha .. | exact rtok_spec (.mk _ _ _ _ _) | exact rvalid_spec (.mk _ _ _ _ _))
       case hg => ((simp [SV.noG, SV.noGL, Cell.noG]) <;> (repeat' apply And.intro) <;> exact Ints_noG _)
       case' hk => simp only [bkc, go_sem, Nat.reduceEqDiff, Nat.reduceAdd, Nat.reduceSub, Nat.reduceMul, Nat.reduceLT, Nat.reduceLeDiff, ↓reduceIte, reduceCtorEq, List.reduceReplicate, Int.cast_ofNat_Int, SV.ren, SV.renL, Cell.ren, Row.ren, renO, bk, back, outUpsFrom, Ints_ren])
    | (apply cl_use
       case hr => (simp only [List.map_cons, List.map_nil, hpL', lookR, Nat.reduceEqDiff, if_true, if_false]; first | exact map0 | exact map1 _ | exact map2 _ _ | exact map3 _ _ _)
       case ha => (simp only [List.map_cons, List.map_nil, prepV, prepC, idx, hpL', lookR, Nat.reduceEqDiff, if_true, if_false]; rfl)
       case hs => (simp only [snaps, SV.refs, Cell.refs, idx, List.flatMap_cons, List.flatMap_nil, List.nil_append, List.cons_append, List.append_nil, List.filter_cons, List.filter_nil, Nat.reduceEqDiff, if_true, if_false, Option.isNone_none, Option.isNone_some, Bool.false_eq_true, reduceCtorEq, ↓reduceIte]; rfl)
       case hn => decide
       case h => (first | exact ha .. | exact rtok_spec (.mk _ _ _ _ _) | exact rvalid_spec (.mk _ _ _ _ _))
       case hf => (simp only [List.forall_mem_cons, List.not_mem_nil, false_implies, implies_true, and_true, true_and, flat_cons, flat_nil, flat_ints, flat_app, Cell.refs, and_self, eq_self_iff_true, List.append_nil])
       case hg => ((simp [hpL', lookR, Cell.isG]) <;> (repeat' apply And.intro) <;> exact Ints_isG _)
       case hl => (simp only [List.length_cons, List.length_nil]; decide)
       case' hk => simp only [bkc, go_sem, Nat.reduceEqDiff, Nat.reduceAdd, Nat.reduceSub, Nat.reduceMul, Nat.reduceLT, Nat.reduceLeDiff, ↓reduceIte, reduceCtorEq, List.reduceReplicate, Int.cast_ofNat_Int, SV.ren, SV.renL, Cell.ren, Row.ren, renO, bk, back, outUpsFrom, Ints_ren])
    | (apply fs_nil <;> (try simp only [go_sem, resV, resS, SV.ren, SV.renL, Cell.ren, St.tmF, St.hpF, idx, renO, Row.ren, evS, slot, lookR, Nat.reduceEqDiff, ↓reduceIte, reduceCtorEq, if_true, if_false, Option.getD_some, Option.getD_none, List.map_cons, List.map_nil, sLoad, readAt, readNeed, Ints_ren, Ints_length, Ints_getD, and_true, true_and, List.getD_cons_zero, List.getD_cons_succ]) <;> (try rfl)))
  all_goals
    simp only [Bool.not_eq_true', Bool.not_eq_false', decide_eq_true_eq, decide_eq_false_iff_not, Bool.or_eq_true, Bool.or_eq_false_iff, Bool.and_eq_true] at *
    first
    | (rw [hb]; (simp only [bz, wi_no, bopen_eq, *, eq_self, ne_eq, not_true_eq_false, not_false_eq_true, if_true, if_false, Bool.false_eq_true, Bool.true_eq_false, or_true, true_or, or_false, false_or, and_true, true_and, and_false, false_and, or_self, and_self]; done))
    | (have ho := bopen_no (p := p') (s := s') (l := l') (t := t') |>.2 (show ¬ r' = 4611686018427387904 by assumption)
       have hv := bv_shut (hok (by assumption)) ho
       simp only at hv
       have hq := mul_rng (a := n) (b := p') (A := 1073741824) (B := 1048576) (by omega) (by omega) (by omega) (by omega)
       omega)
    | (have hbo := bopen_iff (p := p') (s := s') (l := l') (t := t') |>.2 (show r' = 4611686018427387904 by assumption)
       have ht : btok ⟨r', p', s', l', t'⟩ = 1073741824 := by
         unfold btok
         rw [if_neg (by rw [Bool.not_eq_false]; exact hok (by assumption)), if_pos hbo]
       have hn2 : ¬ btok ⟨r', p', s', l', t'⟩ < n := by omega
       rw [hb, if_neg (by simpa using (by assumption : e = 0)), if_neg (by rw [wi_no]; omega), if_neg hn2, if_pos hbo])
theorem rwhen_spec (b : Bk) (n : Int) : FnSpec Try.prog 27 [bkt b, i1 n] [] (.tup [i1 (bwhen b n).1, i1 (bwhen b n).2]) [] := by
  obtain ⟨r, p, s, l, t⟩ := b
  refine fnspec_of mixed TT_ok TT_cl ⟨fun _ => false, fun _ => [], 0, fun _ => false, fun _ => false⟩ Try.func27 rfl (by kernel_rfl) rfl 63 rfl [.tmp 4, .tmp 5] rfl ?_
  simp only [go_sem, Nat.reduceEqDiff, Nat.reduceAdd, Nat.reduceSub, Nat.reduceMul, Nat.reduceLT, Nat.reduceLeDiff, ↓reduceIte, reduceCtorEq, List.reduceReplicate, Int.cast_ofNat_Int, bkc]
  repeat' (first
    | with_reducible refine And.intro ?_ ?_
    | (unfold OKC; kernel_rfl)
    | (apply okc_up <;> (first | ((repeat (first | exact Sub.nil | apply Sub.gfp | apply Sub.same)); done) | kernel_rfl))
    | (unfold EDG; kernel_rfl)
    | (intros; (try simp only [Bool.and_eq_true, Bool.or_eq_true, Bool.not_eq_true', Bool.not_eq_false', Bool.and_eq_false_iff, Bool.or_eq_false_iff, decide_eq_true_eq, decide_eq_false_iff_not] at *); omega)
    | (refine cd_if (fun h => ?_) (fun h => ?_) <;> (first | (simp only [h, bkc, go_sem, Nat.reduceEqDiff, Nat.reduceAdd, Nat.reduceSub, Nat.reduceMul, Nat.reduceLT, Nat.reduceLeDiff, ↓reduceIte, reduceCtorEq, List.reduceReplicate, Int.cast_ofNat_Int]; done) | simp only [h, bkc, go_sem, Nat.reduceEqDiff, Nat.reduceAdd, Nat.reduceSub, Nat.reduceMul, Nat.reduceLT, Nat.reduceLeDiff, ↓reduceIte, reduceCtorEq, List.reduceReplicate, Int.cast_ofNat_Int] | skip))
    | (apply cg_tp
       case hl => rfl
       case ha => (simp only [List.map_cons, List.map_nil, prepV, prepC, idx, hpL', lookR, Nat.reduceEqDiff, if_true, if_false]; rfl)
       case hs => rfl
       case h => (first | exact rvalid_spec (.mk _ _ _ _ _))
       case' hk => simp only [bkc, go_sem, Nat.reduceEqDiff, Nat.reduceAdd, Nat.reduceSub, Nat.reduceMul, Nat.reduceLT, Nat.reduceLeDiff, ↓reduceIte, reduceCtorEq, List.reduceReplicate, Int.cast_ofNat_Int, SV.ren, SV.renL, Cell.ren])
    | (apply cg_ts
       case hl => rfl
       case ha => (simp only [List.map_cons, List.map_nil, prepV, prepC, idx, hpL', lookR, Nat.reduceEqDiff, if_true, if_false]; rfl)
       case hs => (simp only [snaps_nil, List.flatMap_cons, List.flatMap_nil, SV.refs, Cell.refs, List.nil_append, List.cons_append, List.append_nil]; rfl)
       case h => (first | exact rvalid_spec (.mk _ _ _ _ _))
       case hf => ((simp only [List.forall_mem_cons, List.not_mem_nil, false_implies, implies_true, and_true, hpL', lookR, Nat.reduceEqDiff, if_true, if_false]) <;> (repeat' apply And.intro) <;> exact ⟨_, rfl, Ints_isG _⟩)
       case hg => simp [SV.noG, SV.noGL, Cell.noG]
       case' hk => simp only [bkc, go_sem, Nat.reduceEqDiff, Nat.reduceAdd, Nat.reduceSub, Nat.reduceMul, Nat.reduceLT, Nat.reduceLeDiff, ↓reduceIte, reduceCtorEq, List.reduceReplicate, Int.cast_ofNat_Int, SV.ren, SV.renL, Cell.ren])
    | (apply cg_any
       case hl => rfl
       case ha => (intro hb; simp only [List.map_cons, List.map_nil, cnd, hb, if_true, prepV, prepC, idx, hpL', lookR, Nat.reduceEqDiff, if_false]; rfl)
       case hs => (intro hb; simp only [cnd, hb, if_true]; rfl)
       case h => (first | exact rvalid_spec (.mk _ _ _ _ _))
       case' hk => simp only [bkc, go_sem, Nat.reduceEqDiff, Nat.reduceAdd, Nat.reduceSub, Nat.reduceMul, Nat.reduceLT, Nat.reduceLeDiff, ↓reduceIte, reduceCtorEq, List.reduceReplicate, Int.cast_ofNat_Int, SV.ren, SV.renL, Cell.ren])
    | (apply cg_show
       case hl => rfl
       case ha => (intro hb; simp only [List.map_cons, List.map_nil, cnd, hb, if_true, prepV, prepC, idx, hpL', lookR, Nat.reduceEqDiff, if_false]; rfl)
       case hs => (intro hb; simp only [cnd, hb, if_true, snaps_nil, List.flatMap_cons, List.flatMap_nil, SV.refs, Cell.refs, List.nil_append, List.cons_append, List.append_nil]; rfl)
       case h => (first | exact rvalid_spec (.mk _ _ _ _ _))
       case hf => ((simp only [List.forall_mem_cons, List.not_mem_nil, false_implies, implies_true, and_true, hpL', lookR, Nat.reduceEqDiff, if_true, if_false]) <;> (repeat' apply And.intro) <;> exact ⟨_, rfl, Ints_isG _⟩)
       case hg => simp [SV.noG, SV.noGL, Cell.noG]
       case' hk => simp only [bkc, go_sem, Nat.reduceEqDiff, Nat.reduceAdd, Nat.reduceSub, Nat.reduceMul, Nat.reduceLT, Nat.reduceLeDiff, ↓reduceIte, reduceCtorEq, List.reduceReplicate, Int.cast_ofNat_Int, SV.ren, SV.renL, Cell.ren])
    | (apply cl_plain
       case hs => rfl
       case ha => (simp only [List.map_cons, List.map_nil, prepV, prepC, idx, hpL', lookR, Nat.reduceEqDiff, if_true, if_false]; rfl)
       case h => (first | exact rvalid_spec (.mk _ _ _ _ _))
       case' hk => simp only [bkc, go_sem, Nat.reduceEqDiff, Nat.reduceAdd, Nat.reduceSub, Nat.reduceMul, Nat.reduceLT, Nat.reduceLeDiff, ↓reduceIte, reduceCtorEq, List.reduceReplicate, Int.cast_ofNat_Int, SV.ren, SV.renL, Cell.ren, Row.ren, renO, bk, back, outUpsFrom, Ints_ren])
    | (apply cl_lend
       case hr => (simp only [List.map_cons, List.map_nil, hpL', lookR, Nat.reduceEqDiff, if_true, if_false]; first | exact map1 _ | exact map2 _ _ | exact map3 _ _ _)
       case ha => (simp only [List.map_cons, List.map_nil, prepV, prepC, idx, hpL', lookR, Nat.reduceEqDiff, if_true, if_false]; rfl)
       case hs => rfl
       case hn => decide
       case h => (first | exact rvalid_spec (.mk _ _ _ _ _))
       case hf => (simp only [List.forall_mem_cons, List.not_mem_nil, false_implies, implies_true, and_true, true_and, flat_cons, flat_nil, flat_ints, flat_app, Cell.refs, and_self, eq_self_iff_true, List.append_nil])
       case hl => (simp only [List.length_cons, List.length_nil]; decide)
       case' hk => simp only [bkc, go_sem, Nat.reduceEqDiff, Nat.reduceAdd, Nat.reduceSub, Nat.reduceMul, Nat.reduceLT, Nat.reduceLeDiff, ↓reduceIte, reduceCtorEq, List.reduceReplicate, Int.cast_ofNat_Int, SV.ren, SV.renL, Cell.ren, Row.ren, renO, bk, back, outUpsFrom, Ints_ren])
    | (apply cl_show
       case ha => (simp only [List.map_cons, List.map_nil, prepV, prepC, idx, hpL', lookR, Nat.reduceEqDiff, if_true, if_false]; rfl)
       case hs => ((simp [snaps, SV.refs, Cell.refs, idx, hpL', lookR]) <;> (repeat' apply And.intro) <;> exact Ints_isG _)
       case h => (first | exact rvalid_spec (.mk _ _ _ _ _))
       case hg => ((simp [SV.noG, SV.noGL, Cell.noG]) <;> (repeat' apply And.intro) <;> exact Ints_noG _)
       case' hk => simp only [bkc, go_sem, Nat.reduceEqDiff, Nat.reduceAdd, Nat.reduceSub, Nat.reduceMul, Nat.reduceLT, Nat.reduceLeDiff, ↓reduceIte, reduceCtorEq, List.reduceReplicate, Int.cast_ofNat_Int, SV.ren, SV.renL, Cell.ren, Row.ren, renO, bk, back, outUpsFrom, Ints_ren])
    | (apply cl_use
       case hr => (simp only [List.map_cons, List.map_nil, hpL', lookR, Nat.reduceEqDiff, if_true, if_false]; first | exact map0 | exact map1 _ | exact map2 _ _ | exact map3 _ _ _)
       case ha => (simp only [List.map_cons, List.map_nil, prepV, prepC, idx, hpL', lookR, Nat.reduceEqDiff, if_true, if_false]; rfl)
       case hs => (simp only [snaps, SV.refs, Cell.refs, idx, List.flatMap_cons, List.flatMap_nil, List.nil_append, List.cons_append, List.append_nil, List.filter_cons, List.filter_nil, Nat.reduceEqDiff, if_true, if_false, Option.isNone_none, Option.isNone_some, Bool.false_eq_true, reduceCtorEq, ↓reduceIte]; rfl)
       case hn => decide
       case h => (first | exact rvalid_spec (.mk _ _ _ _ _))
       case hf => (simp only [List.forall_mem_cons, List.not_mem_nil, false_implies, implies_true, and_true, true_and, flat_cons, flat_nil, flat_ints, flat_app, Cell.refs, and_self, eq_self_iff_true, List.append_nil])
       case hg => ((simp [hpL', lookR, Cell.isG]) <;> (repeat' apply And.intro) <;> exact Ints_isG _)
       case hl => (simp only [List.length_cons, List.length_nil]; decide)
       case' hk => simp only [bkc, go_sem, Nat.reduceEqDiff, Nat.reduceAdd, Nat.reduceSub, Nat.reduceMul, Nat.reduceLT, Nat.reduceLeDiff, ↓reduceIte, reduceCtorEq, List.reduceReplicate, Int.cast_ofNat_Int, SV.ren, SV.renL, Cell.ren, Row.ren, renO, bk, back, outUpsFrom, Ints_ren])
    | (apply fs_nil <;> (try simp only [go_sem, resV, resS, SV.ren, SV.renL, Cell.ren, St.tmF, St.hpF, idx, renO, Row.ren, evS, slot, lookR, Nat.reduceEqDiff, ↓reduceIte, reduceCtorEq, if_true, if_false, Option.getD_some, Option.getD_none, List.map_cons, List.map_nil, sLoad, readAt, readNeed, Ints_ren, Ints_length, Ints_getD, and_true, true_and, List.getD_cons_zero, List.getD_cons_succ]) <;> (try rfl)))
  all_goals
    simp only [Bool.not_eq_true', Bool.not_eq_false', decide_eq_true_eq, decide_eq_false_iff_not, Bool.or_eq_true, Bool.or_eq_false_iff, Bool.and_eq_true] at *
    have hl : (n * p ≤ l) = (n * p - l ≤ 0) := by rw [eq_iff_iff]; omega
    try simp only [hl] at *
    first
    | (simp only [bwhen, wi_no, bopen_eq, *, eq_self, ne_eq, not_true_eq_false, not_false_eq_true, if_true, if_false, Bool.false_eq_true, Bool.true_eq_false, or_true, true_or, or_false, false_or, and_true, true_and, and_false, false_and, or_self, and_self]; done)
    | (have hv := bv_iff (b := ⟨r, p, s, l, t⟩) (by assumption)
       simp only at hv
       have hq := mul_rng (a := n) (b := p) (A := 1073741824) (B := 1048576) (by omega) (by omega) (by omega) (by omega)
       first
       | omega
       | (have z1 := (show ¬ r = 4611686018427387904 ∧ ¬ n * p - l ≤ 0 by assumption).1
          have z2 := (show ¬ s < n ∧ ¬ r = 0 by assumption)
          have hv := bv_shut (b := ⟨r, p, s, l, t⟩) (by assumption) (bopen_no.2 z1)
          simp only at hv
          have e0 := Int.tdiv_eq_ediv_of_nonneg (a := n * p - l + r - 1) (b := r) (by omega)
          have e1 := Int.ediv_nonneg (a := n * p - l + r - 1) (b := r) (by omega) (by omega)
          have e2 := Int.ediv_le_self (a := n * p - l + r - 1) r (by omega)
          omega))
theorem rchange_spec (b : Bk) (r p s now : Int) : FnSpec Try.prog 28 [bkt b, i1 r, i1 p, i1 s, i1 now] [] (bre (bchg b r p s now)) [] := by
  have ha := radv_spec b now
  have hn := rnew_spec r p s now
  have hok : (badv b now).2 = 0 → bvalid (badv b now).1 = true := fun h => (badv_ok h).1
  have hb : bchg b r p s now = if (badv b now).2 ≠ 0 then (bz, (badv b now).2) else if (bnew r p s now).2 ≠ 0 then (bz, (bnew r p s now).2) else ({ (bnew r p s now).1 with l := (if (bnew r p s now).1.s < (if bopen (badv b now).1 = true then 0 else btok (badv b now).1) then (bnew r p s now).1.s else (if bopen (badv b now).1 = true then 0 else btok (badv b now).1)) * p }, 0) := rfl
  have hnew : (bnew r p s now).2 = 0 → 0 ≤ (bnew r p s now).1.s ∧ (bnew r p s now).1.s ≤ 1073741824 ∧ 1 ≤ p ∧ p ≤ 1048576 ∧ (r = 4611686018427387904 → (bnew r p s now).1.s = 0 ∧ (bnew r p s now).1.l = 0) ∧ (¬ r = 4611686018427387904 → (bnew r p s now).1.s = s) := fun h => by
    unfold bnew at h ⊢
    split at h
    · cases h
    · rename_i h1
      rw [if_neg h1]
      rw [Bool.not_eq_false] at h1
      unfold bn0 at h1
      rw [bvalid_iff] at h1
      simp only [bn0]
      refine ⟨?_, ?_, by omega, by omega, fun hr => ?_, fun hr => ?_⟩
      · split at h1 <;> split <;> omega
      · split at h1 <;> split <;> omega
      · rw [if_pos hr]; exact ⟨rfl, Int.zero_mul _⟩
      · rw [if_neg hr]
  have ho : 0 ≤ btok (badv b now).1 := btok_ge _
  generalize bchg b r p s now = y at *
  generalize badv b now = x at *
  generalize bnew r p s now = z at *
  obtain ⟨rr, pp, ss, ll, tt⟩ := b
  obtain ⟨⟨r', p', s', l', t'⟩, e⟩ := x
  obtain ⟨⟨r2, p2, s2, l2, t2⟩, e2⟩ := z
  simp only [bre, bkc] at ha hn hok ⊢
  refine fnspec_of mixed TT_ok TT_cl ⟨fun _ => false, fun _ => [], 0, fun _ => false, fun _ => false⟩ Try.func28 rfl (by kernel_rfl) rfl 51 rfl [.cell 10 24, .tmp 11] rfl ?_
  simp only [go_sem, Nat.reduceEqDiff, Nat.reduceAdd, Nat.reduceSub, Nat.reduceMul, Nat.reduceLT, Nat.reduceLeDiff, ↓reduceIte, reduceCtorEq, List.reduceReplicate, Int.cast_ofNat_Int, bkc]
  repeat' (first
    | with_reducible refine And.intro ?_ ?_
    | (unfold OKC; kernel_rfl)
    | (apply okc_up <;> (first | ((repeat (first | exact Sub.nil | apply Sub.gfp | apply Sub.same)); done) | kernel_rfl))
    | (unfold EDG; kernel_rfl)
    | (intros; (try simp only [Bool.and_eq_true, Bool.or_eq_true, Bool.not_eq_true', Bool.not_eq_false', Bool.and_eq_false_iff, Bool.or_eq_false_iff, decide_eq_true_eq, decide_eq_false_iff_not] at *); omega)
    | (refine cd_if (fun h => ?_) (fun h => ?_) <;> (first | (simp only [h, bkc, go_sem, Nat.reduceEqDiff, Nat.reduceAdd, Nat.reduceSub, Nat.reduceMul, Nat.reduceLT, Nat.reduceLeDiff, ↓reduceIte, reduceCtorEq, List.reduceReplicate, Int.cast_ofNat_Int]; done) | simp only [h, bkc, go_sem, Nat.reduceEqDiff, Nat.reduceAdd, Nat.reduceSub, Nat.reduceMul, Nat.reduceLT, Nat.reduceLeDiff, ↓reduceIte, reduceCtorEq, List.reduceReplicate, Int.cast_ofNat_Int] | skip))
    | (apply cg_tp
       case hl => rfl
       case ha => (simp only [List.map_cons, List.map_nil, prepV, prepC, idx, hpL', lookR, Nat.reduceEqDiff, if_true, if_false]; rfl)
       case hs => rfl
       case h => (first | exact ha .. | exact hn .. | exact rtok_spec (.mk _ _ _ _ _))
       case' hk => simp only [bkc, go_sem, Nat.reduceEqDiff, Nat.reduceAdd, Nat.reduceSub, Nat.reduceMul, Nat.reduceLT, Nat.reduceLeDiff, ↓reduceIte, reduceCtorEq, List.reduceReplicate, Int.cast_ofNat_Int, SV.ren, SV.renL, Cell.ren])
    | (apply cg_ts
       case hl => rfl
       case ha => (simp only [List.map_cons, List.map_nil, prepV, prepC, idx, hpL', lookR, Nat.reduceEqDiff, if_true, if_false]; rfl)
       case hs => (simp only [snaps_nil, List.flatMap_cons, List.flatMap_nil, SV.refs, Cell.refs, List.nil_append, List.cons_append, List.append_nil]; rfl)
       case h => (first | exact ha .. | exact hn .. | exact rtok_spec (.mk _ _ _ _ _))
       case hf => ((simp only [List.forall_mem_cons, List.not_mem_nil, false_implies, implies_true, and_true, hpL', lookR, Nat.reduceEqDiff, if_true, if_false]) <;> (repeat' apply And.intro) <;> exact ⟨_, rfl, Ints_isG _⟩)
       case hg => simp [SV.noG, SV.noGL, Cell.noG]
       case' hk => simp only [bkc, go_sem, Nat.reduceEqDiff, Nat.reduceAdd, Nat.reduceSub, Nat.reduceMul, Nat.reduceLT, Nat.reduceLeDiff, ↓reduceIte, reduceCtorEq, List.reduceReplicate, Int.cast_ofNat_Int, SV.ren, SV.renL, Cell.ren])
    | (apply cg_any
       case hl => rfl
       case ha => (intro hb; simp only [List.map_cons, List.map_nil, cnd, hb, if_true, prepV, prepC, idx, hpL', lookR, Nat.reduceEqDiff, if_false]; rfl)
       case hs => (intro hb; simp only [cnd, hb, if_true]; rfl)
       case h => (first | exact ha .. | exact hn .. | exact rtok_spec (.mk _ _ _ _ _))
       case' hk => simp only [bkc, go_sem, Nat.reduceEqDiff, Nat.reduceAdd, Nat.reduceSub, Nat.reduceMul, Nat.reduceLT, Nat.reduceLeDiff, ↓reduceIte, reduceCtorEq, List.reduceReplicate, Int.cast_ofNat_Int, SV.ren, SV.renL, Cell.ren])
    | (apply cg_show
       case hl => rfl
       case ha => (intro hb; simp only [List.map_cons, List.map_nil, cnd, hb, if_true, prepV, prepC, idx, hpL', lookR, Nat.reduceEqDiff, if_false]; rfl)
       case hs => (intro hb; simp only [cnd, hb, if_true, snaps_nil, List.flatMap_cons, List.flatMap_nil, SV.refs, Cell.refs, List.nil_append, List.cons_append, List.append_nil]; rfl)
       case h => (first | exact ha .. | exact hn .. | exact rtok_spec (.mk _ _ _ _ _))
       case hf => ((simp only [List.forall_mem_cons, List.not_mem_nil, false_implies, implies_true, and_true, hpL', lookR, Nat.reduceEqDiff, if_true, if_false]) <;> (repeat' apply And.intro) <;> exact ⟨_, rfl, Ints_isG _⟩)
       case hg => simp [SV.noG, SV.noGL, Cell.noG]
       case' hk => simp only [bkc, go_sem, Nat.reduceEqDiff, Nat.reduceAdd, Nat.reduceSub, Nat.reduceMul, Nat.reduceLT, Nat.reduceLeDiff, ↓reduceIte, reduceCtorEq, List.reduceReplicate, Int.cast_ofNat_Int, SV.ren, SV.renL, Cell.ren])
    | (apply cl_plain
       case hs => rfl
       case ha => (simp only [List.map_cons, List.map_nil, prepV, prepC, idx, hpL', lookR, Nat.reduceEqDiff, if_true, if_false]; rfl)
       case h => (first | exact ha .. | exact hn .. | exact rtok_spec (.mk _ _ _ _ _))
       case' hk => simp only [bkc, go_sem, Nat.reduceEqDiff, Nat.reduceAdd, Nat.reduceSub, Nat.reduceMul, Nat.reduceLT, Nat.reduceLeDiff, ↓reduceIte, reduceCtorEq, List.reduceReplicate, Int.cast_ofNat_Int, SV.ren, SV.renL, Cell.ren, Row.ren, renO, bk, back, outUpsFrom, Ints_ren])
    | (apply cl_lend
       case hr => (simp only [List.map_cons, List.map_nil, hpL', lookR, Nat.reduceEqDiff, if_true, if_false]; first | exact map1 _ | exact map2 _ _ | exact map3 _ _ _)
       case ha => (simp only [List.map_cons, List.map_nil, prepV, prepC, idx, hpL', lookR, Nat.reduceEqDiff, if_true, if_false]; rfl)
       case hs => rfl
       case hn => decide
       case h => (first | exact ha .. | exact hn .. | exact rtok_spec (.mk _ _ _ _ _))
       case hf => (simp only [List.forall_mem_cons, List.not_mem_nil, false_implies, implies_true, and_true, true_and, flat_cons, flat_nil, flat_ints, flat_app, Cell.refs, and_self, eq_self_iff_true, List.append_nil])
       case hl => (simp only [List.length_cons, List.length_nil]; decide)
       case' hk => simp only [bkc, go_sem, Nat.reduceEqDiff, Nat.reduceAdd, Nat.reduceSub, Nat.reduceMul, Nat.reduceLT, Nat.reduceLeDiff, ↓reduceIte, reduceCtorEq, List.reduceReplicate, Int.cast_ofNat_Int, SV.ren, SV.renL, Cell.ren, Row.ren, renO, bk, back, outUpsFrom, Ints_ren])
    | (apply cl_show
       case ha => (simp only [List.map_cons, List.map_nil, prepV, prepC, idx, hpL', lookR, Nat.reduceEqDiff, if_true, if_false]; rfl)
       case hs => ((simp [snaps, SV.refs, Cell.refs, idx, hpL', lookR]) <;> (repeat' apply And.intro) <;> exact Ints_isG _)
       case h => (first | exact ha .. | exact hn .. | exact rtok_spec (.mk _ _ _ _ _))
       case hg => ((simp [SV.noG, SV.noGL, Cell.noG]) <;> (repeat' apply And.intro) <;> exact Ints_noG _)
       case' hk => simp only [bkc, go_sem, Nat.reduceEqDiff, Nat.reduceAdd, Nat.reduceSub, Nat.reduceMul, Nat.reduceLT, Nat.reduceLeDiff, ↓reduceIte, reduceCtorEq, List.reduceReplicate, Int.cast_ofNat_Int, SV.ren, SV.renL, Cell.ren, Row.ren, renO, bk, back, outUpsFrom, Ints_ren])
    | (apply cl_use
       case hr => (simp only [List.map_cons, List.map_nil, hpL', lookR, Nat.reduceEqDiff, if_true, if_false]; first | exact map0 | exact map1 _ | exact map2 _ _ | exact map3 _ _ _)
       case ha => (simp only [List.map_cons, List.map_nil, prepV, prepC, idx, hpL', lookR, Nat.reduceEqDiff, if_true, if_false]; rfl)
       case hs => (simp only [snaps, SV.refs, Cell.refs, idx, List.flatMap_cons, List.flatMap_nil, List.nil_append, List.cons_append, List.append_nil, List.filter_cons, List.filter_nil, Nat.reduceEqDiff, if_true, if_false, Option.isNone_none, Option.isNone_some, Bool.false_eq_true, reduceCtorEq, ↓reduceIte]; rfl)
       case hn => decide
       case h => (first | exact ha .. | exact hn .. | exact rtok_spec (.mk _ _ _ _ _))
       case hf => (simp only [List.forall_mem_cons, List.not_mem_nil, false_implies, implies_true, and_true, true_and, flat_cons, flat_nil, flat_ints, flat_app, Cell.refs, and_self, eq_self_iff_true, List.append_nil])
       case hg => ((simp [hpL', lookR, Cell.isG]) <;> (repeat' apply And.intro) <;> exact Ints_isG _)
       case hl => (simp only [List.length_cons, List.length_nil]; decide)
       case' hk => simp only [bkc, go_sem, Nat.reduceEqDiff, Nat.reduceAdd, Nat.reduceSub, Nat.reduceMul, Nat.reduceLT, Nat.reduceLeDiff, ↓reduceIte, reduceCtorEq, List.reduceReplicate, Int.cast_ofNat_Int, SV.ren, SV.renL, Cell.ren, Row.ren, renO, bk, back, outUpsFrom, Ints_ren])
    | (apply fs_nil <;> (try simp only [go_sem, resV, resS, SV.ren, SV.renL, Cell.ren, St.tmF, St.hpF, idx, renO, Row.ren, evS, slot, lookR, Nat.reduceEqDiff, ↓reduceIte, reduceCtorEq, if_true, if_false, Option.getD_some, Option.getD_none, List.map_cons, List.map_nil, sLoad, readAt, readNeed, Ints_ren, Ints_length, Ints_getD, and_true, true_and, List.getD_cons_zero, List.getD_cons_succ]) <;> (try rfl)))
  all_goals
    simp only [Bool.not_eq_true', Bool.not_eq_false', decide_eq_true_eq, decide_eq_false_iff_not, Bool.or_eq_true, Bool.or_eq_false_iff, Bool.and_eq_true] at *
    first
    | (rw [hb]; (simp only [bz, bopen_eq, *, eq_self, ne_eq, not_true_eq_false, not_false_eq_true, if_true, if_false, Bool.false_eq_true, Bool.true_eq_false, or_true, true_or, or_false, false_or, and_true, true_and, and_false, false_and, or_self, and_self]; done))
    | (have hvb := hnew (by assumption)
       have hr : r = 4611686018427387904 := by assumption
       have g := hvb.2.2.2.2.1 hr
       have hl : (if s2 < (if bopen ⟨r', p', s', l', t'⟩ = true then 0 else btok ⟨r', p', s', l', t'⟩) then s2 else (if bopen ⟨r', p', s', l', t'⟩ = true then 0 else btok ⟨r', p', s', l', t'⟩)) * p = l2 := by
         rw [g.1, g.2]
         have : (if (0 : Int) < (if bopen ⟨r', p', s', l', t'⟩ = true then 0 else btok ⟨r', p', s', l', t'⟩) then 0 else (if bopen ⟨r', p', s', l', t'⟩ = true then 0 else btok ⟨r', p', s', l', t'⟩)) = 0 := by
           split
           · rfl
           · split <;> split at * <;> omega
         rw [this, Int.zero_mul]
       rw [hb, if_neg (by simpa using (by assumption : e = 0)), if_neg (by simpa using (by assumption : e2 = 0)), hl])
    | (have hvb := hnew (by assumption)
       have g := hvb.2.2.2.2.2 (by assumption)
       have hbo := bopen_iff (p := p') (s := s') (l := l') (t := t') |>.2 (show r' = 4611686018427387904 by assumption)
       rw [hb, if_neg (by simpa using (by assumption : e = 0)), if_neg (by simpa using (by assumption : e2 = 0)), if_pos hbo, if_neg (show ¬ s2 < 0 by omega)])
    | (have hvb := hnew (by assumption)
       have g := hvb.2.2.2.2.2 (by assumption)
       have hbo : ¬ bopen ⟨r', p', s', l', t'⟩ = true := by rw [bopen_iff]; assumption
       rw [hb, if_neg (by simpa using (by assumption : e = 0)), if_neg (by simpa using (by assumption : e2 = 0)), if_neg hbo, g])
    | (have hvb := hnew (by assumption)
       have g := hvb.2.2.2.2.2 (by assumption)
       have hq : ∀ m : Int, 0 ≤ m → m ≤ s2 → 0 ≤ m * p ∧ m * p ≤ 1073741824 * 1048576 := fun m h1 h2 => mul_rng (a := m) (b := p) (A := 1073741824) (B := 1048576) (by omega) (by omega) (by omega) (by omega)
       rw [g] at hq
       have g1 := hq s (by omega) (by omega)
       have g0 := hq 0 (by omega) (by omega)
       split
       · omega
       · rename_i hm
         first
         | omega
         | (have := hq _ ho (by omega); omega))
end Go.Proofs.Ytcfkmkabjalgjac
