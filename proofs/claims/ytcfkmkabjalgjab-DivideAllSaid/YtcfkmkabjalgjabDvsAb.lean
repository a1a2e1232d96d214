/- Contracts of functions, told of values, on the way to DivideAll. -/
import Derived.Test.YtcfkmkabjalgjabTyAb
import Derived.Test.YtcfkmkabjalgjabDvrAb
-- PRUNE: cg_ts cg_show cl_lend cl_use
namespace Go.Proofs.Ytcfkmkabjalgjab
set_option linter.unusedVariables false
set_option linter.unusedSimpArgs false
open Go.Proofs.Ytcfkmkabjalgjab.Sh
def bst (ws gs ds : List Int) (n : Nat) : Int := if (firstN ws gs ds n).2 = true then (firstN ws gs ds n).1 else -1
theorem firstG_no {ws gs ds : List Int} (h : ¬ (gs.length = ws.length ∧ ds.length = ws.length ∧ inL ws 1 10000 = true ∧ inL gs 0 65536 = true ∧ inL ds 0 65536 = true)) : firstG ws gs ds = (0, false) := by
  unfold firstG
  split
  · rfl
  · rename_i h1
    split
    · rename_i h2
      simp only [Bool.or_eq_true, Bool.not_eq_true', decide_eq_false_iff_not, not_or, Bool.not_eq_false, Classical.not_not] at h1
      have hv := valid_iff h1.1
      refine absurd ⟨by omega, hv.2.2.1, ?_, ?_, ?_⟩ h
      · rw [inL_iff]; intro i hi
        have := (hv.2.2.2 i hi).1; simpa only [isW, Bool.and_eq_true, decide_eq_true_eq] using this
      · rw [inL_iff]; intro i hi
        have := List.all_eq_true.1 h2 _ (getD_mem hi); simpa only [isU, Bool.and_eq_true, decide_eq_true_eq] using this
      · rw [inL_iff]; intro i hi
        have := (hv.2.2.2 i (by omega)).2; simpa only [isU, Bool.and_eq_true, decide_eq_true_eq] using this
    · rfl
theorem firstG_yes {ws gs ds : List Int} (hl : ws.length ≤ 64) (h : gs.length = ws.length ∧ ds.length = ws.length ∧ inL ws 1 10000 = true ∧ inL gs 0 65536 = true ∧ inL ds 0 65536 = true) : firstG ws gs ds = firstN ws gs ds ws.length := by
  obtain ⟨h1, h2, h3, h4, h5⟩ := h
  have hv : valid 0 ws ds = true := by
    rw [valid_eq]
    simp only [Bool.and_eq_true, decide_eq_true_eq]
    exact ⟨⟨⟨⟨⟨by omega, by omega⟩, by omega⟩, by omega⟩, h3⟩, h5⟩
  unfold firstG
  rw [if_neg (by simp [hv, h1]), if_pos]
  rw [List.all_eq_true]
  intro x hx
  unfold inL at h4
  have := List.all_eq_true.1 h4 x hx
  simpa only [isU] using this
theorem rfirst_spec (ws gs ds : List Int) (c d e : Option Nat) (hl : ws.length ≤ 64 ∨ gs.length ≠ ws.length) (l1 : ws.length ≤ 9223372036854775807) (l2 : gs.length ≤ 9223372036854775807) (l3 : ds.length ≤ 9223372036854775807) :
    FnSpec Try.prog 26 [gi ws c, gi gs d, gi ds e] [] (.tup [i1 (firstG ws gs ds).1, b1 (firstG ws gs ds).2]) [] := by
  by_cases hv : gs.length = ws.length ∧ ds.length = ws.length ∧ inL ws 1 10000 = true ∧ inL gs 0 65536 = true ∧ inL ds 0 65536 = true
  case neg =>
    have hcond : (!decide ((gs.length : Int) = ws.length) || !decide ((ds.length : Int) = ws.length) || !inL ws 1 10000 || !inL gs 0 65536 || !inL ds 0 65536) = true := by
      simp only [Bool.or_eq_true, Bool.not_eq_true', decide_eq_false_iff_not]
      by_cases a1 : gs.length = ws.length
      · by_cases a2 : ds.length = ws.length
        · cases b1 : inL ws 1 10000 with
          | false => simp
          | true =>
            cases b2 : inL gs 0 65536 with
            | false => simp
            | true =>
              cases b3 : inL ds 0 65536 with
              | false => simp
              | true => exact absurd ⟨a1, a2, b1, b2, b3⟩ hv
        · left; left; left; right; omega
      · left; left; left; left; omega
    rw [firstG_no hv]
    refine fnspec_of mixed TT_ok TT_cl ⟨fun _ => false, fun _ => [], 0, fun _ => false, fun _ => false⟩ Try.func26 rfl (by kernel_rfl) rfl 69 rfl [.tmp 6, .tmp 7] rfl ?_
    simp only [go_sem, Nat.reduceEqDiff, Nat.reduceAdd, Nat.reduceSub, Nat.reduceMul, Nat.reduceLT, Nat.reduceLeDiff, ↓reduceIte, reduceCtorEq, List.reduceReplicate, Int.cast_ofNat_Int]
    repeat' (first
    | with_reducible refine And.intro ?_ ?_
    | (unfold OKC; kernel_rfl)
    | (apply okc_up <;> (first | ((repeat (first | exact Sub.nil | apply Sub.gfp | apply Sub.same)); done) | kernel_rfl))
    | (unfold EDG; kernel_rfl)
    | (intros; (try simp only [Bool.and_eq_true, Bool.or_eq_true, Bool.not_eq_true', Bool.not_eq_false', Bool.and_eq_false_iff, Bool.or_eq_false_iff, decide_eq_true_eq, decide_eq_false_iff_not] at *); omega)
    | (refine gt_if (fun h => ?_) (fun h => ?_) <;> (first | (simp only [h, hcond, go_sem, Nat.reduceEqDiff, Nat.reduceAdd, Nat.reduceSub, Nat.reduceMul, Nat.reduceLT, Nat.reduceLeDiff, ↓reduceIte, reduceCtorEq, List.reduceReplicate, Int.cast_ofNat_Int]; done) | simp only [h, hcond, go_sem, Nat.reduceEqDiff, Nat.reduceAdd, Nat.reduceSub, Nat.reduceMul, Nat.reduceLT, Nat.reduceLeDiff, ↓reduceIte, reduceCtorEq, List.reduceReplicate, Int.cast_ofNat_Int] | skip))
    | (refine pt_if (fun h => ?_) (fun h => ?_) <;> (first | (simp only [h, hcond, go_sem, Nat.reduceEqDiff, Nat.reduceAdd, Nat.reduceSub, Nat.reduceMul, Nat.reduceLT, Nat.reduceLeDiff, ↓reduceIte, reduceCtorEq, List.reduceReplicate, Int.cast_ofNat_Int]; done) | simp only [h, hcond, go_sem, Nat.reduceEqDiff, Nat.reduceAdd, Nat.reduceSub, Nat.reduceMul, Nat.reduceLT, Nat.reduceLeDiff, ↓reduceIte, reduceCtorEq, List.reduceReplicate, Int.cast_ofNat_Int] | skip))
    | (refine cd_if (fun h => ?_) (fun h => ?_) <;> (first | (simp only [h, hcond, go_sem, Nat.reduceEqDiff, Nat.reduceAdd, Nat.reduceSub, Nat.reduceMul, Nat.reduceLT, Nat.reduceLeDiff, ↓reduceIte, reduceCtorEq, List.reduceReplicate, Int.cast_ofNat_Int]; done) | simp only [h, hcond, go_sem, Nat.reduceEqDiff, Nat.reduceAdd, Nat.reduceSub, Nat.reduceMul, Nat.reduceLT, Nat.reduceLeDiff, ↓reduceIte, reduceCtorEq, List.reduceReplicate, Int.cast_ofNat_Int] | skip))
    | (apply cg_tp
       case hl => rfl
       case ha => (simp only [List.map_cons, List.map_nil, prepV, prepC, idx, hpL', lookR, Nat.reduceEqDiff, if_true, if_false]; rfl)
       case hs => rfl
       case h => (first | exact in_spec _ _ _ _ l1 | exact in_spec _ _ _ _ l2 | exact in_spec _ _ _ _ l3)
       case' hk => simp only [hcond, go_sem, Nat.reduceEqDiff, Nat.reduceAdd, Nat.reduceSub, Nat.reduceMul, Nat.reduceLT, Nat.reduceLeDiff, ↓reduceIte, reduceCtorEq, List.reduceReplicate, Int.cast_ofNat_Int, SV.ren, SV.renL, Cell.ren])
    | (apply cg_any
       case hl => rfl
       case ha => (intro hb; simp only [List.map_cons, List.map_nil, cnd, hb, if_true, prepV, prepC, idx, hpL', lookR, Nat.reduceEqDiff, if_false]; rfl)
       case hs => (intro hb; simp only [cnd, hb, if_true]; rfl)
       case h => (first | exact in_spec _ _ _ _ l1 | exact in_spec _ _ _ _ l2 | exact in_spec _ _ _ _ l3)
       case' hk => simp only [hcond, go_sem, Nat.reduceEqDiff, Nat.reduceAdd, Nat.reduceSub, Nat.reduceMul, Nat.reduceLT, Nat.reduceLeDiff, ↓reduceIte, reduceCtorEq, List.reduceReplicate, Int.cast_ofNat_Int, SV.ren, SV.renL, Cell.ren])
    | (apply cl_plain
       case hs => rfl
       case ha => (simp only [List.map_cons, List.map_nil, prepV, prepC, idx, hpL', lookR, Nat.reduceEqDiff, if_true, if_false]; rfl)
       case h => (first | exact in_spec _ _ _ _ l1 | exact in_spec _ _ _ _ l2 | exact in_spec _ _ _ _ l3)
       case' hk => simp only [hcond, go_sem, Nat.reduceEqDiff, Nat.reduceAdd, Nat.reduceSub, Nat.reduceMul, Nat.reduceLT, Nat.reduceLeDiff, ↓reduceIte, reduceCtorEq, List.reduceReplicate, Int.cast_ofNat_Int, SV.ren, SV.renL, Cell.ren, Row.ren, renO, bk, back, outUpsFrom, Ints_ren])
    | (apply cl_show
       case ha => (simp only [List.map_cons, List.map_nil, prepV, prepC, idx, hpL', lookR, Nat.reduceEqDiff, if_true, if_false]; rfl)
       case hs => ((simp [snaps, SV.refs, Cell.refs, idx, hpL', lookR]) <;> (repeat' apply And.intro) <;> exact Ints_isG _)
       case h => (first | exact in_spec _ _ _ _ l1 | exact in_spec _ _ _ _ l2 | exact in_spec _ _ _ _ l3)
       case hg => ((simp [SV.noG, SV.noGL, Cell.noG]) <;> (repeat' apply And.intro) <;> exact Ints_noG _)
       case' hk => simp only [hcond, go_sem, Nat.reduceEqDiff, Nat.reduceAdd, Nat.reduceSub, Nat.reduceMul, Nat.reduceLT, Nat.reduceLeDiff, ↓reduceIte, reduceCtorEq, List.reduceReplicate, Int.cast_ofNat_Int, SV.ren, SV.renL, Cell.ren, Row.ren, renO, bk, back, outUpsFrom, Ints_ren])
    | (apply fs_nil <;> (try simp only [go_sem, resV, resS, SV.ren, SV.renL, Cell.ren, St.tmF, St.hpF, idx, renO, Row.ren, evS, slot, lookR, Nat.reduceEqDiff, ↓reduceIte, reduceCtorEq, if_true, if_false, Option.getD_some, Option.getD_none, List.map_cons, List.map_nil, sLoad, readAt, readNeed, Ints_ren, Ints_length, Ints_getD, and_true, true_and, List.getD_cons_zero, List.getD_cons_succ]) <;> (try rfl)))
    all_goals (exfalso; simp_all)
  obtain ⟨h1, h2, h3, h4, h5⟩ := hv
  have hw : ws.length ≤ 64 := by omega
  rw [firstG_yes hw ⟨h1, h2, h3, h4, h5⟩]
  have hcond : (!decide ((gs.length : Int) = ws.length) || !decide ((ds.length : Int) = ws.length) || !inL ws 1 10000 || !inL gs 0 65536 || !inL ds 0 65536) = false := by
    simp [h1, h2, h3, h4, h5]
  have hflt := firstN_lt ws gs ds
  refine fnspec_of mixed TT_ok TT_cl ⟨fun _ => false, fun _ => [], 0, fun _ => false, fun _ => false⟩ Try.func26 rfl (by kernel_rfl) rfl 69 rfl [.tmp 6, .tmp 7] rfl ?_
  simp only [go_sem, Nat.reduceEqDiff, Nat.reduceAdd, Nat.reduceSub, Nat.reduceMul, Nat.reduceLT, Nat.reduceLeDiff, ↓reduceIte, reduceCtorEq, List.reduceReplicate, Int.cast_ofNat_Int]
  repeat' (first
    | with_reducible refine And.intro ?_ ?_
    | (unfold OKC; kernel_rfl)
    | (apply okc_up <;> (first | ((repeat (first | exact Sub.nil | apply Sub.gfp | apply Sub.same)); done) | kernel_rfl))
    | (unfold EDG; kernel_rfl)
    | (intros; (try simp only [Bool.and_eq_true, Bool.or_eq_true, Bool.not_eq_true', Bool.not_eq_false', Bool.and_eq_false_iff, Bool.or_eq_false_iff, decide_eq_true_eq, decide_eq_false_iff_not] at *); omega)
    | (refine gt_if (fun h => ?_) (fun h => ?_) <;> (first | (simp only [h, Bool.or_self, hcond, h3, h4, h5, decide_eq_true (show (gs.length : Int) = ws.length by omega), decide_eq_true (show (ds.length : Int) = ws.length by omega), go_sem, Nat.reduceEqDiff, Nat.reduceAdd, Nat.reduceSub, Nat.reduceMul, Nat.reduceLT, Nat.reduceLeDiff, ↓reduceIte, reduceCtorEq, List.reduceReplicate, Int.cast_ofNat_Int]; done) | simp only [h, Bool.or_self, hcond, h3, h4, h5, decide_eq_true (show (gs.length : Int) = ws.length by omega), decide_eq_true (show (ds.length : Int) = ws.length by omega), go_sem, Nat.reduceEqDiff, Nat.reduceAdd, Nat.reduceSub, Nat.reduceMul, Nat.reduceLT, Nat.reduceLeDiff, ↓reduceIte, reduceCtorEq, List.reduceReplicate, Int.cast_ofNat_Int] | skip))
    | (refine pt_if (fun h => ?_) (fun h => ?_) <;> (first | (simp only [h, Bool.or_self, hcond, h3, h4, h5, decide_eq_true (show (gs.length : Int) = ws.length by omega), decide_eq_true (show (ds.length : Int) = ws.length by omega), go_sem, Nat.reduceEqDiff, Nat.reduceAdd, Nat.reduceSub, Nat.reduceMul, Nat.reduceLT, Nat.reduceLeDiff, ↓reduceIte, reduceCtorEq, List.reduceReplicate, Int.cast_ofNat_Int]; done) | simp only [h, Bool.or_self, hcond, h3, h4, h5, decide_eq_true (show (gs.length : Int) = ws.length by omega), decide_eq_true (show (ds.length : Int) = ws.length by omega), go_sem, Nat.reduceEqDiff, Nat.reduceAdd, Nat.reduceSub, Nat.reduceMul, Nat.reduceLT, Nat.reduceLeDiff, ↓reduceIte, reduceCtorEq, List.reduceReplicate, Int.cast_ofNat_Int] | skip))
    | (refine cd_if (fun h => ?_) (fun h => ?_) <;> (first | (simp only [h, Bool.or_self, hcond, h3, h4, h5, decide_eq_true (show (gs.length : Int) = ws.length by omega), decide_eq_true (show (ds.length : Int) = ws.length by omega), go_sem, Nat.reduceEqDiff, Nat.reduceAdd, Nat.reduceSub, Nat.reduceMul, Nat.reduceLT, Nat.reduceLeDiff, ↓reduceIte, reduceCtorEq, List.reduceReplicate, Int.cast_ofNat_Int]; done) | simp only [h, Bool.or_self, hcond, h3, h4, h5, decide_eq_true (show (gs.length : Int) = ws.length by omega), decide_eq_true (show (ds.length : Int) = ws.length by omega), go_sem, Nat.reduceEqDiff, Nat.reduceAdd, Nat.reduceSub, Nat.reduceMul, Nat.reduceLT, Nat.reduceLeDiff, ↓reduceIte, reduceCtorEq, List.reduceReplicate, Int.cast_ofNat_Int] | skip))
    | (apply cg_tp
       case hl => rfl
       case ha => (simp only [List.map_cons, List.map_nil, prepV, prepC, idx, hpL', lookR, Nat.reduceEqDiff, if_true, if_false]; rfl)
       case hs => rfl
       case h => (first | exact in_spec _ _ _ _ l1 | exact in_spec _ _ _ _ l2 | exact in_spec _ _ _ _ l3)
       case' hk => simp only [Bool.or_self, hcond, h3, h4, h5, decide_eq_true (show (gs.length : Int) = ws.length by omega), decide_eq_true (show (ds.length : Int) = ws.length by omega), go_sem, Nat.reduceEqDiff, Nat.reduceAdd, Nat.reduceSub, Nat.reduceMul, Nat.reduceLT, Nat.reduceLeDiff, ↓reduceIte, reduceCtorEq, List.reduceReplicate, Int.cast_ofNat_Int, SV.ren, SV.renL, Cell.ren])
    | (apply cg_any
       case hl => rfl
       case ha => (intro hb; simp only [List.map_cons, List.map_nil, cnd, hb, if_true, prepV, prepC, idx, hpL', lookR, Nat.reduceEqDiff, if_false]; rfl)
       case hs => (intro hb; simp only [cnd, hb, if_true]; rfl)
       case h => (first | exact in_spec _ _ _ _ l1 | exact in_spec _ _ _ _ l2 | exact in_spec _ _ _ _ l3)
       case' hk => simp only [Bool.or_self, hcond, h3, h4, h5, decide_eq_true (show (gs.length : Int) = ws.length by omega), decide_eq_true (show (ds.length : Int) = ws.length by omega), go_sem, Nat.reduceEqDiff, Nat.reduceAdd, Nat.reduceSub, Nat.reduceMul, Nat.reduceLT, Nat.reduceLeDiff, ↓reduceIte, reduceCtorEq, List.reduceReplicate, Int.cast_ofNat_Int, SV.ren, SV.renL, Cell.ren])
    | (apply cl_plain
       case hs => rfl
       case ha => (simp only [List.map_cons, List.map_nil, prepV, prepC, idx, hpL', lookR, Nat.reduceEqDiff, if_true, if_false]; rfl)
       case h => (first | exact in_spec _ _ _ _ l1 | exact in_spec _ _ _ _ l2 | exact in_spec _ _ _ _ l3)
       case' hk => simp only [Bool.or_self, hcond, h3, h4, h5, decide_eq_true (show (gs.length : Int) = ws.length by omega), decide_eq_true (show (ds.length : Int) = ws.length by omega), go_sem, Nat.reduceEqDiff, Nat.reduceAdd, Nat.reduceSub, Nat.reduceMul, Nat.reduceLT, Nat.reduceLeDiff, ↓reduceIte, reduceCtorEq, List.reduceReplicate, Int.cast_ofNat_Int, SV.ren, SV.renL, Cell.ren, Row.ren, renO, bk, back, outUpsFrom, Ints_ren])
    | (apply cl_show
       case ha => (simp only [List.map_cons, List.map_nil, prepV, prepC, idx, hpL', lookR, Nat.reduceEqDiff, if_true, if_false]; rfl)
       case hs => ((simp [snaps, SV.refs, Cell.refs, idx, hpL', lookR]) <;> (repeat' apply And.intro) <;> exact Ints_isG _)
       case h => (first | exact in_spec _ _ _ _ l1 | exact in_spec _ _ _ _ l2 | exact in_spec _ _ _ _ l3)
       case hg => ((simp [SV.noG, SV.noGL, Cell.noG]) <;> (repeat' apply And.intro) <;> exact Ints_noG _)
       case' hk => simp only [Bool.or_self, hcond, h3, h4, h5, decide_eq_true (show (gs.length : Int) = ws.length by omega), decide_eq_true (show (ds.length : Int) = ws.length by omega), go_sem, Nat.reduceEqDiff, Nat.reduceAdd, Nat.reduceSub, Nat.reduceMul, Nat.reduceLT, Nat.reduceLeDiff, ↓reduceIte, reduceCtorEq, List.reduceReplicate, Int.cast_ofNat_Int, SV.ren, SV.renL, Cell.ren, Row.ren, renO, bk, back, outUpsFrom, Ints_ren])
    | (apply fs_nil <;> (try simp only [go_sem, resV, resS, SV.ren, SV.renL, Cell.ren, St.tmF, St.hpF, idx, renO, Row.ren, evS, slot, lookR, Nat.reduceEqDiff, ↓reduceIte, reduceCtorEq, if_true, if_false, Option.getD_some, Option.getD_none, List.map_cons, List.map_nil, sLoad, readAt, readNeed, Ints_ren, Ints_length, Ints_getD, and_true, true_and, List.getD_cons_zero, List.getD_cons_succ]) <;> (try rfl)))
  refine w_loop (ι := Nat) (fun i => ⟨[(10, i1 i), (9, i1 (bst ws gs ds i)), (8, i1 ws.length), (0, gi ws c), (1, gi gs d), (2, gi ds e)], [], 7⟩) (fun i => i ≤ ws.length) (fun i => ws.length - i) 0 ?_ (Nat.zero_le _) ?_
  · (refine imp_sub _ _ _ [] (by simp) (by simp) (by simp) (Nat.zero_le _) ?_ rfl (by simp); simp only [List.forall_mem_cons, List.not_mem_nil, false_implies, implies_true, and_true, lk, slot, SV.ren, Cell.ren, Nat.reduceEqDiff, if_true, if_false, ↓reduceIte, reduceCtorEq]); all_goals ((repeat' apply And.intro) <;> (first | rfl | trivial))
  intro i hi
  have hfi := hflt i
  rcases Nat.lt_or_ge i ws.length with hlt | hge
  · have hlt2 : (i : Int) < ws.length := by omega
    cases hq : (firstN ws gs ds i).2 with
    | false =>
      have hb : bst ws gs ds i = -1 := by unfold bst; rw [hq]; rfl
      rw [hb]
      by_cases hd : gs.getD i 0 < ds.getD i 0
      · have ef : firstN ws gs ds (i + 1) = ((i : Int), true) := by
          rw [firstN, if_pos]
          simp only [decide_eq_true hd, hq, Bool.not_false, Bool.true_or, Bool.and_self]
        have hb2 : bst ws gs ds (i + 1) = i := by unfold bst; rw [ef]; rfl
        simp only [go_sem, Nat.reduceEqDiff, Nat.reduceAdd, Nat.reduceSub, Nat.reduceMul, Nat.reduceLT, Nat.reduceLeDiff, ↓reduceIte, reduceCtorEq, List.reduceReplicate, Int.cast_ofNat_Int, decide_eq_true hlt2]
        repeat' (first
    | with_reducible refine And.intro ?_ ?_
    | (unfold OKC; kernel_rfl)
    | (apply okc_up <;> (first | ((repeat (first | exact Sub.nil | apply Sub.gfp | apply Sub.same)); done) | kernel_rfl))
    | (unfold EDG; kernel_rfl)
    | (intros; (try simp only [Bool.and_eq_true, Bool.or_eq_true, Bool.not_eq_true', Bool.not_eq_false', Bool.and_eq_false_iff, Bool.or_eq_false_iff, decide_eq_true_eq, decide_eq_false_iff_not] at *); omega)
    | (refine gt_if (fun h => ?_) (fun h => ?_) <;> (first | (simp only [h, decide_eq_true hd, go_sem, Nat.reduceEqDiff, Nat.reduceAdd, Nat.reduceSub, Nat.reduceMul, Nat.reduceLT, Nat.reduceLeDiff, ↓reduceIte, reduceCtorEq, List.reduceReplicate, Int.cast_ofNat_Int]; done) | simp only [h, decide_eq_true hd, go_sem, Nat.reduceEqDiff, Nat.reduceAdd, Nat.reduceSub, Nat.reduceMul, Nat.reduceLT, Nat.reduceLeDiff, ↓reduceIte, reduceCtorEq, List.reduceReplicate, Int.cast_ofNat_Int] | skip))
    | (refine pt_if (fun h => ?_) (fun h => ?_) <;> (first | (simp only [h, decide_eq_true hd, go_sem, Nat.reduceEqDiff, Nat.reduceAdd, Nat.reduceSub, Nat.reduceMul, Nat.reduceLT, Nat.reduceLeDiff, ↓reduceIte, reduceCtorEq, List.reduceReplicate, Int.cast_ofNat_Int]; done) | simp only [h, decide_eq_true hd, go_sem, Nat.reduceEqDiff, Nat.reduceAdd, Nat.reduceSub, Nat.reduceMul, Nat.reduceLT, Nat.reduceLeDiff, ↓reduceIte, reduceCtorEq, List.reduceReplicate, Int.cast_ofNat_Int] | skip))
    | (refine cd_if (fun h => ?_) (fun h => ?_) <;> (first | (simp only [h, decide_eq_true hd, go_sem, Nat.reduceEqDiff, Nat.reduceAdd, Nat.reduceSub, Nat.reduceMul, Nat.reduceLT, Nat.reduceLeDiff, ↓reduceIte, reduceCtorEq, List.reduceReplicate, Int.cast_ofNat_Int]; done) | simp only [h, decide_eq_true hd, go_sem, Nat.reduceEqDiff, Nat.reduceAdd, Nat.reduceSub, Nat.reduceMul, Nat.reduceLT, Nat.reduceLeDiff, ↓reduceIte, reduceCtorEq, List.reduceReplicate, Int.cast_ofNat_Int] | skip))
    | (apply cg_tp
       case hl => rfl
       case ha => (simp only [List.map_cons, List.map_nil, prepV, prepC, idx, hpL', lookR, Nat.reduceEqDiff, if_true, if_false]; rfl)
       case hs => rfl
       case h => (first | exact rlevel_spec ..)
       case' hk => simp only [decide_eq_true hd, go_sem, Nat.reduceEqDiff, Nat.reduceAdd, Nat.reduceSub, Nat.reduceMul, Nat.reduceLT, Nat.reduceLeDiff, ↓reduceIte, reduceCtorEq, List.reduceReplicate, Int.cast_ofNat_Int, SV.ren, SV.renL, Cell.ren])
    | (apply cg_any
       case hl => rfl
       case ha => (intro hb; simp only [List.map_cons, List.map_nil, cnd, hb, if_true, prepV, prepC, idx, hpL', lookR, Nat.reduceEqDiff, if_false]; rfl)
       case hs => (intro hb; simp only [cnd, hb, if_true]; rfl)
       case h => (first | exact rlevel_spec ..)
       case' hk => simp only [decide_eq_true hd, go_sem, Nat.reduceEqDiff, Nat.reduceAdd, Nat.reduceSub, Nat.reduceMul, Nat.reduceLT, Nat.reduceLeDiff, ↓reduceIte, reduceCtorEq, List.reduceReplicate, Int.cast_ofNat_Int, SV.ren, SV.renL, Cell.ren])
    | (apply cl_plain
       case hs => rfl
       case ha => (simp only [List.map_cons, List.map_nil, prepV, prepC, idx, hpL', lookR, Nat.reduceEqDiff, if_true, if_false]; rfl)
       case h => (first | exact rlevel_spec ..)
       case' hk => simp only [decide_eq_true hd, go_sem, Nat.reduceEqDiff, Nat.reduceAdd, Nat.reduceSub, Nat.reduceMul, Nat.reduceLT, Nat.reduceLeDiff, ↓reduceIte, reduceCtorEq, List.reduceReplicate, Int.cast_ofNat_Int, SV.ren, SV.renL, Cell.ren, Row.ren, renO, bk, back, outUpsFrom, Ints_ren])
    | (apply cl_show
       case ha => (simp only [List.map_cons, List.map_nil, prepV, prepC, idx, hpL', lookR, Nat.reduceEqDiff, if_true, if_false]; rfl)
       case hs => ((simp [snaps, SV.refs, Cell.refs, idx, hpL', lookR]) <;> (repeat' apply And.intro) <;> exact Ints_isG _)
       case h => (first | exact rlevel_spec ..)
       case hg => ((simp [SV.noG, SV.noGL, Cell.noG]) <;> (repeat' apply And.intro) <;> exact Ints_noG _)
       case' hk => simp only [decide_eq_true hd, go_sem, Nat.reduceEqDiff, Nat.reduceAdd, Nat.reduceSub, Nat.reduceMul, Nat.reduceLT, Nat.reduceLeDiff, ↓reduceIte, reduceCtorEq, List.reduceReplicate, Int.cast_ofNat_Int, SV.ren, SV.renL, Cell.ren, Row.ren, renO, bk, back, outUpsFrom, Ints_ren]))
        all_goals try omega
        refine le_mk (i + 1) ?_ (by omega) (by omega)
        rw [hb2]
        (refine imp_sub _ _ _ [] (by simp) (by simp) (by simp) (Nat.zero_le _) ?_ rfl (by simp); simp only [List.forall_mem_cons, List.not_mem_nil, false_implies, implies_true, and_true, lk, slot, SV.ren, Cell.ren, Nat.reduceEqDiff, if_true, if_false, ↓reduceIte, reduceCtorEq]); all_goals ((repeat' apply And.intro) <;> (first | rfl | trivial))
      · have ef : firstN ws gs ds (i + 1) = firstN ws gs ds i := by
          rw [firstN, if_neg]
          simp only [decide_eq_false hd, Bool.false_and, Bool.false_eq_true, not_false_eq_true]
        have hb2 : bst ws gs ds (i + 1) = -1 := by unfold bst at hb ⊢; rw [ef]; exact hb
        simp only [go_sem, Nat.reduceEqDiff, Nat.reduceAdd, Nat.reduceSub, Nat.reduceMul, Nat.reduceLT, Nat.reduceLeDiff, ↓reduceIte, reduceCtorEq, List.reduceReplicate, Int.cast_ofNat_Int, decide_eq_true hlt2]
        repeat' (first
    | with_reducible refine And.intro ?_ ?_
    | (unfold OKC; kernel_rfl)
    | (apply okc_up <;> (first | ((repeat (first | exact Sub.nil | apply Sub.gfp | apply Sub.same)); done) | kernel_rfl))
    | (unfold EDG; kernel_rfl)
    | (intros; (try simp only [Bool.and_eq_true, Bool.or_eq_true, Bool.not_eq_true', Bool.not_eq_false', Bool.and_eq_false_iff, Bool.or_eq_false_iff, decide_eq_true_eq, decide_eq_false_iff_not] at *); omega)
    | (refine gt_if (fun h => ?_) (fun h => ?_) <;> (first | (simp only [h, decide_eq_false hd, go_sem, Nat.reduceEqDiff, Nat.reduceAdd, Nat.reduceSub, Nat.reduceMul, Nat.reduceLT, Nat.reduceLeDiff, ↓reduceIte, reduceCtorEq, List.reduceReplicate, Int.cast_ofNat_Int]; done) | simp only [h, decide_eq_false hd, go_sem, Nat.reduceEqDiff, Nat.reduceAdd, Nat.reduceSub, Nat.reduceMul, Nat.reduceLT, Nat.reduceLeDiff, ↓reduceIte, reduceCtorEq, List.reduceReplicate, Int.cast_ofNat_Int] | skip))
    | (refine pt_if (fun h => ?_) (fun h => ?_) <;> (first | (simp only [h, decide_eq_false hd, go_sem, Nat.reduceEqDiff, Nat.reduceAdd, Nat.reduceSub, Nat.reduceMul, Nat.reduceLT, Nat.reduceLeDiff, ↓reduceIte, reduceCtorEq, List.reduceReplicate, Int.cast_ofNat_Int]; done) | simp only [h, decide_eq_false hd, go_sem, Nat.reduceEqDiff, Nat.reduceAdd, Nat.reduceSub, Nat.reduceMul, Nat.reduceLT, Nat.reduceLeDiff, ↓reduceIte, reduceCtorEq, List.reduceReplicate, Int.cast_ofNat_Int] | skip))
    | (refine cd_if (fun h => ?_) (fun h => ?_) <;> (first | (simp only [h, decide_eq_false hd, go_sem, Nat.reduceEqDiff, Nat.reduceAdd, Nat.reduceSub, Nat.reduceMul, Nat.reduceLT, Nat.reduceLeDiff, ↓reduceIte, reduceCtorEq, List.reduceReplicate, Int.cast_ofNat_Int]; done) | simp only [h, decide_eq_false hd, go_sem, Nat.reduceEqDiff, Nat.reduceAdd, Nat.reduceSub, Nat.reduceMul, Nat.reduceLT, Nat.reduceLeDiff, ↓reduceIte, reduceCtorEq, List.reduceReplicate, Int.cast_ofNat_Int] | skip))
    | (apply cg_tp
       case hl => rfl
       case ha => (simp only [List.map_cons, List.map_nil, prepV, prepC, idx, hpL', lookR, Nat.reduceEqDiff, if_true, if_false]; rfl)
       case hs => rfl
       case h => (first | exact rlevel_spec ..)
       case' hk => simp only [decide_eq_false hd, go_sem, Nat.reduceEqDiff, Nat.reduceAdd, Nat.reduceSub, Nat.reduceMul, Nat.reduceLT, Nat.reduceLeDiff, ↓reduceIte, reduceCtorEq, List.reduceReplicate, Int.cast_ofNat_Int, SV.ren, SV.renL, Cell.ren])
    | (apply cg_any
       case hl => rfl
       case ha => (intro hb; simp only [List.map_cons, List.map_nil, cnd, hb, if_true, prepV, prepC, idx, hpL', lookR, Nat.reduceEqDiff, if_false]; rfl)
       case hs => (intro hb; simp only [cnd, hb, if_true]; rfl)
       case h => (first | exact rlevel_spec ..)
       case' hk => simp only [decide_eq_false hd, go_sem, Nat.reduceEqDiff, Nat.reduceAdd, Nat.reduceSub, Nat.reduceMul, Nat.reduceLT, Nat.reduceLeDiff, ↓reduceIte, reduceCtorEq, List.reduceReplicate, Int.cast_ofNat_Int, SV.ren, SV.renL, Cell.ren])
    | (apply cl_plain
       case hs => rfl
       case ha => (simp only [List.map_cons, List.map_nil, prepV, prepC, idx, hpL', lookR, Nat.reduceEqDiff, if_true, if_false]; rfl)
       case h => (first | exact rlevel_spec ..)
       case' hk => simp only [decide_eq_false hd, go_sem, Nat.reduceEqDiff, Nat.reduceAdd, Nat.reduceSub, Nat.reduceMul, Nat.reduceLT, Nat.reduceLeDiff, ↓reduceIte, reduceCtorEq, List.reduceReplicate, Int.cast_ofNat_Int, SV.ren, SV.renL, Cell.ren, Row.ren, renO, bk, back, outUpsFrom, Ints_ren])
    | (apply cl_show
       case ha => (simp only [List.map_cons, List.map_nil, prepV, prepC, idx, hpL', lookR, Nat.reduceEqDiff, if_true, if_false]; rfl)
       case hs => ((simp [snaps, SV.refs, Cell.refs, idx, hpL', lookR]) <;> (repeat' apply And.intro) <;> exact Ints_isG _)
       case h => (first | exact rlevel_spec ..)
       case hg => ((simp [SV.noG, SV.noGL, Cell.noG]) <;> (repeat' apply And.intro) <;> exact Ints_noG _)
       case' hk => simp only [decide_eq_false hd, go_sem, Nat.reduceEqDiff, Nat.reduceAdd, Nat.reduceSub, Nat.reduceMul, Nat.reduceLT, Nat.reduceLeDiff, ↓reduceIte, reduceCtorEq, List.reduceReplicate, Int.cast_ofNat_Int, SV.ren, SV.renL, Cell.ren, Row.ren, renO, bk, back, outUpsFrom, Ints_ren]))
        all_goals try omega
        refine le_mk (i + 1) ?_ (by omega) (by omega)
        rw [hb2]
        (refine imp_sub _ _ _ [] (by simp) (by simp) (by simp) (Nat.zero_le _) ?_ rfl (by simp); simp only [List.forall_mem_cons, List.not_mem_nil, false_implies, implies_true, and_true, lk, slot, SV.ren, Cell.ren, Nat.reduceEqDiff, if_true, if_false, ↓reduceIte, reduceCtorEq]); all_goals ((repeat' apply And.intro) <;> (first | rfl | trivial))
    | true =>
      have hfi := hfi hq
      have hb : bst ws gs ds i = (firstN ws gs ds i).1 := by unfold bst; rw [hq]; rfl
      have hnb : ¬ bst ws gs ds i < 0 := by rw [hb]; omega
      by_cases hd : gs.getD i 0 < ds.getD i 0
      · by_cases hlv : level ws gs i (bst ws gs ds i) < 0
        · have hb2 : bst ws gs ds (i + 1) = i := by
            have := hlv; rw [hb] at this
            have ef : firstN ws gs ds (i + 1) = ((i : Int), true) := by
              rw [firstN, if_pos]
              simp only [decide_eq_true hd, hq, Bool.not_true, Bool.false_or, decide_eq_true this, Bool.and_self]
            unfold bst; rw [ef]; rfl
          simp only [go_sem, Nat.reduceEqDiff, Nat.reduceAdd, Nat.reduceSub, Nat.reduceMul, Nat.reduceLT, Nat.reduceLeDiff, ↓reduceIte, reduceCtorEq, List.reduceReplicate, Int.cast_ofNat_Int, decide_eq_true hlt2]
          repeat' (first
    | with_reducible refine And.intro ?_ ?_
    | (unfold OKC; kernel_rfl)
    | (apply okc_up <;> (first | ((repeat (first | exact Sub.nil | apply Sub.gfp | apply Sub.same)); done) | kernel_rfl))
    | (unfold EDG; kernel_rfl)
    | (intros; (try simp only [Bool.and_eq_true, Bool.or_eq_true, Bool.not_eq_true', Bool.not_eq_false', Bool.and_eq_false_iff, Bool.or_eq_false_iff, decide_eq_true_eq, decide_eq_false_iff_not] at *); omega)
    | (refine gt_if (fun h => ?_) (fun h => ?_) <;> (first | (simp only [h, decide_eq_true hd, decide_eq_false hnb, decide_eq_true hlv, go_sem, Nat.reduceEqDiff, Nat.reduceAdd, Nat.reduceSub, Nat.reduceMul, Nat.reduceLT, Nat.reduceLeDiff, ↓reduceIte, reduceCtorEq, List.reduceReplicate, Int.cast_ofNat_Int]; done) | simp only [h, decide_eq_true hd, decide_eq_false hnb, decide_eq_true hlv, go_sem, Nat.reduceEqDiff, Nat.reduceAdd, Nat.reduceSub, Nat.reduceMul, Nat.reduceLT, Nat.reduceLeDiff, ↓reduceIte, reduceCtorEq, List.reduceReplicate, Int.cast_ofNat_Int] | skip))
    | (refine pt_if (fun h => ?_) (fun h => ?_) <;> (first | (simp only [h, decide_eq_true hd, decide_eq_false hnb, decide_eq_true hlv, go_sem, Nat.reduceEqDiff, Nat.reduceAdd, Nat.reduceSub, Nat.reduceMul, Nat.reduceLT, Nat.reduceLeDiff, ↓reduceIte, reduceCtorEq, List.reduceReplicate, Int.cast_ofNat_Int]; done) | simp only [h, decide_eq_true hd, decide_eq_false hnb, decide_eq_true hlv, go_sem, Nat.reduceEqDiff, Nat.reduceAdd, Nat.reduceSub, Nat.reduceMul, Nat.reduceLT, Nat.reduceLeDiff, ↓reduceIte, reduceCtorEq, List.reduceReplicate, Int.cast_ofNat_Int] | skip))
    | (refine cd_if (fun h => ?_) (fun h => ?_) <;> (first | (simp only [h, decide_eq_true hd, decide_eq_false hnb, decide_eq_true hlv, go_sem, Nat.reduceEqDiff, Nat.reduceAdd, Nat.reduceSub, Nat.reduceMul, Nat.reduceLT, Nat.reduceLeDiff, ↓reduceIte, reduceCtorEq, List.reduceReplicate, Int.cast_ofNat_Int]; done) | simp only [h, decide_eq_true hd, decide_eq_false hnb, decide_eq_true hlv, go_sem, Nat.reduceEqDiff, Nat.reduceAdd, Nat.reduceSub, Nat.reduceMul, Nat.reduceLT, Nat.reduceLeDiff, ↓reduceIte, reduceCtorEq, List.reduceReplicate, Int.cast_ofNat_Int] | skip))
    | (apply cg_tp
       case hl => rfl
       case ha => (simp only [List.map_cons, List.map_nil, prepV, prepC, idx, hpL', lookR, Nat.reduceEqDiff, if_true, if_false]; rfl)
       case hs => rfl
       case h => (first | exact rlevel_spec ..)
       case' hk => simp only [decide_eq_true hd, decide_eq_false hnb, decide_eq_true hlv, go_sem, Nat.reduceEqDiff, Nat.reduceAdd, Nat.reduceSub, Nat.reduceMul, Nat.reduceLT, Nat.reduceLeDiff, ↓reduceIte, reduceCtorEq, List.reduceReplicate, Int.cast_ofNat_Int, SV.ren, SV.renL, Cell.ren])
    | (apply cg_any
       case hl => rfl
       case ha => (intro hb; simp only [List.map_cons, List.map_nil, cnd, hb, if_true, prepV, prepC, idx, hpL', lookR, Nat.reduceEqDiff, if_false]; rfl)
       case hs => (intro hb; simp only [cnd, hb, if_true]; rfl)
       case h => (first | exact rlevel_spec ..)
       case' hk => simp only [decide_eq_true hd, decide_eq_false hnb, decide_eq_true hlv, go_sem, Nat.reduceEqDiff, Nat.reduceAdd, Nat.reduceSub, Nat.reduceMul, Nat.reduceLT, Nat.reduceLeDiff, ↓reduceIte, reduceCtorEq, List.reduceReplicate, Int.cast_ofNat_Int, SV.ren, SV.renL, Cell.ren])
    | (apply cl_plain
       case hs => rfl
       case ha => (simp only [List.map_cons, List.map_nil, prepV, prepC, idx, hpL', lookR, Nat.reduceEqDiff, if_true, if_false]; rfl)
       case h => (first | exact rlevel_spec ..)
       case' hk => simp only [decide_eq_true hd, decide_eq_false hnb, decide_eq_true hlv, go_sem, Nat.reduceEqDiff, Nat.reduceAdd, Nat.reduceSub, Nat.reduceMul, Nat.reduceLT, Nat.reduceLeDiff, ↓reduceIte, reduceCtorEq, List.reduceReplicate, Int.cast_ofNat_Int, SV.ren, SV.renL, Cell.ren, Row.ren, renO, bk, back, outUpsFrom, Ints_ren])
    | (apply cl_show
       case ha => (simp only [List.map_cons, List.map_nil, prepV, prepC, idx, hpL', lookR, Nat.reduceEqDiff, if_true, if_false]; rfl)
       case hs => ((simp [snaps, SV.refs, Cell.refs, idx, hpL', lookR]) <;> (repeat' apply And.intro) <;> exact Ints_isG _)
       case h => (first | exact rlevel_spec ..)
       case hg => ((simp [SV.noG, SV.noGL, Cell.noG]) <;> (repeat' apply And.intro) <;> exact Ints_noG _)
       case' hk => simp only [decide_eq_true hd, decide_eq_false hnb, decide_eq_true hlv, go_sem, Nat.reduceEqDiff, Nat.reduceAdd, Nat.reduceSub, Nat.reduceMul, Nat.reduceLT, Nat.reduceLeDiff, ↓reduceIte, reduceCtorEq, List.reduceReplicate, Int.cast_ofNat_Int, SV.ren, SV.renL, Cell.ren, Row.ren, renO, bk, back, outUpsFrom, Ints_ren]))
          all_goals try omega
          refine le_mk (i + 1) ?_ (by omega) (by omega)
          rw [hb2]
          (refine imp_sub _ _ _ [] (by simp) (by simp) (by simp) (Nat.zero_le _) ?_ rfl (by simp); simp only [List.forall_mem_cons, List.not_mem_nil, false_implies, implies_true, and_true, lk, slot, SV.ren, Cell.ren, Nat.reduceEqDiff, if_true, if_false, ↓reduceIte, reduceCtorEq]); all_goals ((repeat' apply And.intro) <;> (first | rfl | trivial))
        · have hb2 : bst ws gs ds (i + 1) = bst ws gs ds i := by
            have h9 := hlv; rw [hb] at h9
            have ef : firstN ws gs ds (i + 1) = firstN ws gs ds i := by
              rw [firstN, if_neg]
              simp only [hq, Bool.not_true, Bool.false_or, decide_eq_false h9, Bool.and_false, Bool.false_eq_true, not_false_eq_true]
            unfold bst; rw [ef]
          simp only [go_sem, Nat.reduceEqDiff, Nat.reduceAdd, Nat.reduceSub, Nat.reduceMul, Nat.reduceLT, Nat.reduceLeDiff, ↓reduceIte, reduceCtorEq, List.reduceReplicate, Int.cast_ofNat_Int, decide_eq_true hlt2]
          repeat' (first
    | with_reducible refine And.intro ?_ ?_
    | (unfold OKC; kernel_rfl)
    | (apply okc_up <;> (first | ((repeat (first | exact Sub.nil | apply Sub.gfp | apply Sub.same)); done) | kernel_rfl))
    | (unfold EDG; kernel_rfl)
    | (intros; (try simp only [Bool.and_eq_true, Bool.or_eq_true, Bool.not_eq_true', Bool.not_eq_false', Bool.and_eq_false_iff, Bool.or_eq_false_iff, decide_eq_true_eq, decide_eq_false_iff_not] at *); omega)
    | (refine gt_if (fun h => ?_) (fun h => ?_) <;> (first | (simp only [h, decide_eq_true hd, decide_eq_false hnb, decide_eq_false hlv, go_sem, Nat.reduceEqDiff, Nat.reduceAdd, Nat.reduceSub, Nat.reduceMul, Nat.reduceLT, Nat.reduceLeDiff, ↓reduceIte, reduceCtorEq, List.reduceReplicate, Int.cast_ofNat_Int]; done) | simp only [h, decide_eq_true hd, decide_eq_false hnb, decide_eq_false hlv, go_sem, Nat.reduceEqDiff, Nat.reduceAdd, Nat.reduceSub, Nat.reduceMul, Nat.reduceLT, Nat.reduceLeDiff, ↓reduceIte, reduceCtorEq, List.reduceReplicate, Int.cast_ofNat_Int] | skip))
    | (refine pt_if (fun h => ?_) (fun h => ?_) <;> (first | (simp only [h, decide_eq_true hd, decide_eq_false hnb, decide_eq_false hlv, go_sem, Nat.reduceEqDiff, Nat.reduceAdd, Nat.reduceSub, Nat.reduceMul, Nat.reduceLT, Nat.reduceLeDiff, ↓reduceIte, reduceCtorEq, List.reduceReplicate, Int.cast_ofNat_Int]; done) | simp only [h, decide_eq_true hd, decide_eq_false hnb, decide_eq_false hlv, go_sem, Nat.reduceEqDiff, Nat.reduceAdd, Nat.reduceSub, Nat.reduceMul, Nat.reduceLT, Nat.reduceLeDiff, ↓reduceIte, reduceCtorEq, List.reduceReplicate, Int.cast_ofNat_Int] | skip))
    | (refine cd_if (fun h => ?_) (fun h => ?_) <;> (first | (simp only [h, decide_eq_true hd, decide_eq_false hnb, decide_eq_false hlv, go_sem, Nat.reduceEqDiff, Nat.reduceAdd, Nat.reduceSub, Nat.reduceMul, Nat.reduceLT, Nat.reduceLeDiff, ↓reduceIte, reduceCtorEq, List.reduceReplicate, Int.cast_ofNat_Int]; done) | simp only [h, decide_eq_true hd, decide_eq_false hnb, decide_eq_false hlv, go_sem, Nat.reduceEqDiff, Nat.reduceAdd, Nat.reduceSub, Nat.reduceMul, Nat.reduceLT, Nat.reduceLeDiff, ↓reduceIte, reduceCtorEq, List.reduceReplicate, Int.cast_ofNat_Int] | skip))
    | (apply cg_tp
       case hl => rfl
       case ha => (simp only [List.map_cons, List.map_nil, prepV, prepC, idx, hpL', lookR, Nat.reduceEqDiff, if_true, if_false]; rfl)
       case hs => rfl
       case h => (first | exact rlevel_spec ..)
       case' hk => simp only [decide_eq_true hd, decide_eq_false hnb, decide_eq_false hlv, go_sem, Nat.reduceEqDiff, Nat.reduceAdd, Nat.reduceSub, Nat.reduceMul, Nat.reduceLT, Nat.reduceLeDiff, ↓reduceIte, reduceCtorEq, List.reduceReplicate, Int.cast_ofNat_Int, SV.ren, SV.renL, Cell.ren])
    | (apply cg_any
       case hl => rfl
       case ha => (intro hb; simp only [List.map_cons, List.map_nil, cnd, hb, if_true, prepV, prepC, idx, hpL', lookR, Nat.reduceEqDiff, if_false]; rfl)
       case hs => (intro hb; simp only [cnd, hb, if_true]; rfl)
       case h => (first | exact rlevel_spec ..)
       case' hk => simp only [decide_eq_true hd, decide_eq_false hnb, decide_eq_false hlv, go_sem, Nat.reduceEqDiff, Nat.reduceAdd, Nat.reduceSub, Nat.reduceMul, Nat.reduceLT, Nat.reduceLeDiff, ↓reduceIte, reduceCtorEq, List.reduceReplicate, Int.cast_ofNat_Int, SV.ren, SV.renL, Cell.ren])
    | (apply cl_plain
       case hs => rfl
       case ha => (simp only [List.map_cons, List.map_nil, prepV, prepC, idx, hpL', lookR, Nat.reduceEqDiff, if_true, if_false]; rfl)
       case h => (first | exact rlevel_spec ..)
       case' hk => simp only [decide_eq_true hd, decide_eq_false hnb, decide_eq_false hlv, go_sem, Nat.reduceEqDiff, Nat.reduceAdd, Nat.reduceSub, Nat.reduceMul, Nat.reduceLT, Nat.reduceLeDiff, ↓reduceIte, reduceCtorEq, List.reduceReplicate, Int.cast_ofNat_Int, SV.ren, SV.renL, Cell.ren, Row.ren, renO, bk, back, outUpsFrom, Ints_ren])
    | (apply cl_show
       case ha => (simp only [List.map_cons, List.map_nil, prepV, prepC, idx, hpL', lookR, Nat.reduceEqDiff, if_true, if_false]; rfl)
       case hs => ((simp [snaps, SV.refs, Cell.refs, idx, hpL', lookR]) <;> (repeat' apply And.intro) <;> exact Ints_isG _)
       case h => (first | exact rlevel_spec ..)
       case hg => ((simp [SV.noG, SV.noGL, Cell.noG]) <;> (repeat' apply And.intro) <;> exact Ints_noG _)
       case' hk => simp only [decide_eq_true hd, decide_eq_false hnb, decide_eq_false hlv, go_sem, Nat.reduceEqDiff, Nat.reduceAdd, Nat.reduceSub, Nat.reduceMul, Nat.reduceLT, Nat.reduceLeDiff, ↓reduceIte, reduceCtorEq, List.reduceReplicate, Int.cast_ofNat_Int, SV.ren, SV.renL, Cell.ren, Row.ren, renO, bk, back, outUpsFrom, Ints_ren]))
          all_goals try omega
          refine le_mk (i + 1) ?_ (by omega) (by omega)
          rw [hb2]
          (refine imp_sub _ _ _ [] (by simp) (by simp) (by simp) (Nat.zero_le _) ?_ rfl (by simp); simp only [List.forall_mem_cons, List.not_mem_nil, false_implies, implies_true, and_true, lk, slot, SV.ren, Cell.ren, Nat.reduceEqDiff, if_true, if_false, ↓reduceIte, reduceCtorEq]); all_goals ((repeat' apply And.intro) <;> (first | rfl | trivial))
      · have hb2 : bst ws gs ds (i + 1) = bst ws gs ds i := by
          have ef : firstN ws gs ds (i + 1) = firstN ws gs ds i := by
            rw [firstN, if_neg]
            simp only [decide_eq_false hd, Bool.false_and, Bool.false_eq_true, not_false_eq_true]
          unfold bst; rw [ef]
        simp only [go_sem, Nat.reduceEqDiff, Nat.reduceAdd, Nat.reduceSub, Nat.reduceMul, Nat.reduceLT, Nat.reduceLeDiff, ↓reduceIte, reduceCtorEq, List.reduceReplicate, Int.cast_ofNat_Int, decide_eq_true hlt2]
        repeat' (first
    | with_reducible refine And.intro ?_ ?_
    | (unfold OKC; kernel_rfl)
    | (apply okc_up <;> (first | ((repeat (first | exact Sub.nil | apply Sub.gfp | apply Sub.same)); done) | kernel_rfl))
    | (unfold EDG; kernel_rfl)
    | (intros; (try simp only [Bool.and_eq_true, Bool.or_eq_true, Bool.not_eq_true', Bool.not_eq_false', Bool.and_eq_false_iff, Bool.or_eq_false_iff, decide_eq_true_eq, decide_eq_false_iff_not] at *); omega)
    | (refine gt_if (fun h => ?_) (fun h => ?_) <;> (first | (simp only [h, decide_eq_false hd, go_sem, Nat.reduceEqDiff, Nat.reduceAdd, Nat.reduceSub, Nat.reduceMul, Nat.reduceLT, Nat.reduceLeDiff, ↓reduceIte, reduceCtorEq, List.reduceReplicate, Int.cast_ofNat_Int]; done) | simp only [h, decide_eq_false hd, go_sem, Nat.reduceEqDiff, Nat.reduceAdd, Nat.reduceSub, Nat.reduceMul, Nat.reduceLT, Nat.reduceLeDiff, ↓reduceIte, reduceCtorEq, List.reduceReplicate, Int.cast_ofNat_Int] | skip))
    | (refine pt_if (fun h => ?_) (fun h => ?_) <;> (first | (simp only [h, decide_eq_false hd, go_sem, Nat.reduceEqDiff, Nat.reduceAdd, Nat.reduceSub, Nat.reduceMul, Nat.reduceLT, Nat.reduceLeDiff, ↓reduceIte, reduceCtorEq, List.reduceReplicate, Int.cast_ofNat_Int]; done) | simp only [h, decide_eq_false hd, go_sem, Nat.reduceEqDiff, Nat.reduceAdd, Nat.reduceSub, Nat.reduceMul, Nat.reduceLT, Nat.reduceLeDiff, ↓reduceIte, reduceCtorEq, List.reduceReplicate, Int.cast_ofNat_Int] | skip))
    | (refine cd_if (fun h => ?_) (fun h => ?_) <;> (first | (simp only [h, decide_eq_false hd, go_sem, Nat.reduceEqDiff, Nat.reduceAdd, Nat.reduceSub, Nat.reduceMul, Nat.reduceLT, Nat.reduceLeDiff, ↓reduceIte, reduceCtorEq, List.reduceReplicate, Int.cast_ofNat_Int]; done) | simp only [h, decide_eq_false hd, go_sem, Nat.reduceEqDiff, Nat.reduceAdd, Nat.reduceSub, Nat.reduceMul, Nat.reduceLT, Nat.reduceLeDiff, ↓reduceIte, reduceCtorEq, List.reduceReplicate, Int.cast_ofNat_Int] | skip))
    | (apply cg_tp
       case hl => rfl
       case ha => (simp only [List.map_cons, List.map_nil, prepV, prepC, idx, hpL', lookR, Nat.reduceEqDiff, if_true, if_false]; rfl)
       case hs => rfl
       case h => (first | exact rlevel_spec ..)
       case' hk => simp only [decide_eq_false hd, go_sem, Nat.reduceEqDiff, Nat.reduceAdd, Nat.reduceSub, Nat.reduceMul, Nat.reduceLT, Nat.reduceLeDiff, ↓reduceIte, reduceCtorEq, List.reduceReplicate, Int.cast_ofNat_Int, SV.ren, SV.renL, Cell.ren])
    | (apply cg_any
       case hl => rfl
       case ha => (intro hb; simp only [List.map_cons, List.map_nil, cnd, hb, if_true, prepV, prepC, idx, hpL', lookR, Nat.reduceEqDiff, if_false]; rfl)
       case hs => (intro hb; simp only [cnd, hb, if_true]; rfl)
       case h => (first | exact rlevel_spec ..)
       case' hk => simp only [decide_eq_false hd, go_sem, Nat.reduceEqDiff, Nat.reduceAdd, Nat.reduceSub, Nat.reduceMul, Nat.reduceLT, Nat.reduceLeDiff, ↓reduceIte, reduceCtorEq, List.reduceReplicate, Int.cast_ofNat_Int, SV.ren, SV.renL, Cell.ren])
    | (apply cl_plain
       case hs => rfl
       case ha => (simp only [List.map_cons, List.map_nil, prepV, prepC, idx, hpL', lookR, Nat.reduceEqDiff, if_true, if_false]; rfl)
       case h => (first | exact rlevel_spec ..)
       case' hk => simp only [decide_eq_false hd, go_sem, Nat.reduceEqDiff, Nat.reduceAdd, Nat.reduceSub, Nat.reduceMul, Nat.reduceLT, Nat.reduceLeDiff, ↓reduceIte, reduceCtorEq, List.reduceReplicate, Int.cast_ofNat_Int, SV.ren, SV.renL, Cell.ren, Row.ren, renO, bk, back, outUpsFrom, Ints_ren])
    | (apply cl_show
       case ha => (simp only [List.map_cons, List.map_nil, prepV, prepC, idx, hpL', lookR, Nat.reduceEqDiff, if_true, if_false]; rfl)
       case hs => ((simp [snaps, SV.refs, Cell.refs, idx, hpL', lookR]) <;> (repeat' apply And.intro) <;> exact Ints_isG _)
       case h => (first | exact rlevel_spec ..)
       case hg => ((simp [SV.noG, SV.noGL, Cell.noG]) <;> (repeat' apply And.intro) <;> exact Ints_noG _)
       case' hk => simp only [decide_eq_false hd, go_sem, Nat.reduceEqDiff, Nat.reduceAdd, Nat.reduceSub, Nat.reduceMul, Nat.reduceLT, Nat.reduceLeDiff, ↓reduceIte, reduceCtorEq, List.reduceReplicate, Int.cast_ofNat_Int, SV.ren, SV.renL, Cell.ren, Row.ren, renO, bk, back, outUpsFrom, Ints_ren]))
        all_goals try omega
        refine le_mk (i + 1) ?_ (by omega) (by omega)
        rw [hb2]
        (refine imp_sub _ _ _ [] (by simp) (by simp) (by simp) (Nat.zero_le _) ?_ rfl (by simp); simp only [List.forall_mem_cons, List.not_mem_nil, false_implies, implies_true, and_true, lk, slot, SV.ren, Cell.ren, Nat.reduceEqDiff, if_true, if_false, ↓reduceIte, reduceCtorEq]); all_goals ((repeat' apply And.intro) <;> (first | rfl | trivial))
  · have hlt2 : ¬ (i : Int) < ws.length := by omega
    have ei : i = ws.length := by omega
    subst ei
    have e1 : (if bst ws gs ds ws.length < 0 then 0 else bst ws gs ds ws.length) = (firstN ws gs ds ws.length).1 := by
      unfold bst
      cases hq : (firstN ws gs ds ws.length).2 with
      | true => have := hfi hq; simp only [if_true]; rw [if_neg (by omega)]
      | false =>
        have hz : ∀ n, (firstN ws gs ds n).2 = false → (firstN ws gs ds n).1 = 0 := by
          intro n
          induction n with
          | zero => intro _; rfl
          | succ n ih =>
            intro h
            unfold firstN at h ⊢
            split at h
            · cases h
            · rename_i hc; rw [if_neg hc]; exact ih h
        rw [hz _ hq]; simp
    have e2 : decide (0 ≤ bst ws gs ds ws.length) = (firstN ws gs ds ws.length).2 := by
      unfold bst
      cases hq : (firstN ws gs ds ws.length).2 with
      | true => have := hfi hq; simp only [if_true]; exact decide_eq_true (by omega)
      | false => simp
    simp only [go_sem, Nat.reduceEqDiff, Nat.reduceAdd, Nat.reduceSub, Nat.reduceMul, Nat.reduceLT, Nat.reduceLeDiff, ↓reduceIte, reduceCtorEq, List.reduceReplicate, Int.cast_ofNat_Int, decide_eq_false hlt2]
    repeat' (first
    | with_reducible refine And.intro ?_ ?_
    | (unfold OKC; kernel_rfl)
    | (apply okc_up <;> (first | ((repeat (first | exact Sub.nil | apply Sub.gfp | apply Sub.same)); done) | kernel_rfl))
    | (unfold EDG; kernel_rfl)
    | (intros; (try simp only [Bool.and_eq_true, Bool.or_eq_true, Bool.not_eq_true', Bool.not_eq_false', Bool.and_eq_false_iff, Bool.or_eq_false_iff, decide_eq_true_eq, decide_eq_false_iff_not] at *); omega)
    | (refine gt_if (fun h => ?_) (fun h => ?_) <;> (first | (simp only [h, e1, e2, go_sem, Nat.reduceEqDiff, Nat.reduceAdd, Nat.reduceSub, Nat.reduceMul, Nat.reduceLT, Nat.reduceLeDiff, ↓reduceIte, reduceCtorEq, List.reduceReplicate, Int.cast_ofNat_Int]; done) | simp only [h, e1, e2, go_sem, Nat.reduceEqDiff, Nat.reduceAdd, Nat.reduceSub, Nat.reduceMul, Nat.reduceLT, Nat.reduceLeDiff, ↓reduceIte, reduceCtorEq, List.reduceReplicate, Int.cast_ofNat_Int] | skip))
    | (refine pt_if (fun h => ?_) (fun h => ?_) <;> (first | (simp only [h, e1, e2, go_sem, Nat.reduceEqDiff, Nat.reduceAdd, Nat.reduceSub, Nat.reduceMul, Nat.reduceLT, Nat.reduceLeDiff, ↓reduceIte, reduceCtorEq, List.reduceReplicate, Int.cast_ofNat_Int]; done) | simp only [h, e1, e2, go_sem, Nat.reduceEqDiff, Nat.reduceAdd, Nat.reduceSub, Nat.reduceMul, Nat.reduceLT, Nat.reduceLeDiff, ↓reduceIte, reduceCtorEq, List.reduceReplicate, Int.cast_ofNat_Int] | skip))
    | (refine cd_if (fun h => ?_) (fun h => ?_) <;> (first | (simp only [h, e1, e2, go_sem, Nat.reduceEqDiff, Nat.reduceAdd, Nat.reduceSub, Nat.reduceMul, Nat.reduceLT, Nat.reduceLeDiff, ↓reduceIte, reduceCtorEq, List.reduceReplicate, Int.cast_ofNat_Int]; done) | simp only [h, e1, e2, go_sem, Nat.reduceEqDiff, Nat.reduceAdd, Nat.reduceSub, Nat.reduceMul, Nat.reduceLT, Nat.reduceLeDiff, ↓reduceIte, reduceCtorEq, List.reduceReplicate, Int.cast_ofNat_Int] | skip))
    | (apply cg_tp
       case hl => rfl
       case ha => (simp only [List.map_cons, List.map_nil, prepV, prepC, idx, hpL', lookR, Nat.reduceEqDiff, if_true, if_false]; rfl)
       case hs => rfl
       case h => (first | fail)
       case' hk => simp only [e1, e2, go_sem, Nat.reduceEqDiff, Nat.reduceAdd, Nat.reduceSub, Nat.reduceMul, Nat.reduceLT, Nat.reduceLeDiff, ↓reduceIte, reduceCtorEq, List.reduceReplicate, Int.cast_ofNat_Int, SV.ren, SV.renL, Cell.ren])
    | (apply cg_any
       case hl => rfl
       case ha => (intro hb; simp only [List.map_cons, List.map_nil, cnd, hb, if_true, prepV, prepC, idx, hpL', lookR, Nat.reduceEqDiff, if_false]; rfl)
       case hs => (intro hb; simp only [cnd, hb, if_true]; rfl)
       case h => (first | fail)
       case' hk => simp only [e1, e2, go_sem, Nat.reduceEqDiff, Nat.reduceAdd, Nat.reduceSub, Nat.reduceMul, Nat.reduceLT, Nat.reduceLeDiff, ↓reduceIte, reduceCtorEq, List.reduceReplicate, Int.cast_ofNat_Int, SV.ren, SV.renL, Cell.ren])
    | (apply cl_plain
       case hs => rfl
       case ha => (simp only [List.map_cons, List.map_nil, prepV, prepC, idx, hpL', lookR, Nat.reduceEqDiff, if_true, if_false]; rfl)
       case h => (first | fail)
       case' hk => simp only [e1, e2, go_sem, Nat.reduceEqDiff, Nat.reduceAdd, Nat.reduceSub, Nat.reduceMul, Nat.reduceLT, Nat.reduceLeDiff, ↓reduceIte, reduceCtorEq, List.reduceReplicate, Int.cast_ofNat_Int, SV.ren, SV.renL, Cell.ren, Row.ren, renO, bk, back, outUpsFrom, Ints_ren])
    | (apply cl_show
       case ha => (simp only [List.map_cons, List.map_nil, prepV, prepC, idx, hpL', lookR, Nat.reduceEqDiff, if_true, if_false]; rfl)
       case hs => ((simp [snaps, SV.refs, Cell.refs, idx, hpL', lookR]) <;> (repeat' apply And.intro) <;> exact Ints_isG _)
       case h => (first | fail)
       case hg => ((simp [SV.noG, SV.noGL, Cell.noG]) <;> (repeat' apply And.intro) <;> exact Ints_noG _)
       case' hk => simp only [e1, e2, go_sem, Nat.reduceEqDiff, Nat.reduceAdd, Nat.reduceSub, Nat.reduceMul, Nat.reduceLT, Nat.reduceLeDiff, ↓reduceIte, reduceCtorEq, List.reduceReplicate, Int.cast_ofNat_Int, SV.ren, SV.renL, Cell.ren, Row.ren, renO, bk, back, outUpsFrom, Ints_ren])
    | (apply fs_nil <;> (try simp only [go_sem, resV, resS, SV.ren, SV.renL, Cell.ren, St.tmF, St.hpF, idx, renO, Row.ren, evS, slot, lookR, Nat.reduceEqDiff, ↓reduceIte, reduceCtorEq, if_true, if_false, Option.getD_some, Option.getD_none, List.map_cons, List.map_nil, sLoad, readAt, readNeed, Ints_ren, Ints_length, Ints_getD, and_true, true_and, List.getD_cons_zero, List.getD_cons_succ]) <;> (try rfl)))
    all_goals rw [e1, e2]
theorem rdivide_spec (t : Int) (ws ds : List Int) (d e : Option Nat) (hv : valid t ws ds = true) :
    FnSpec Try.prog 21 [i1 t, gi ws d, gi ds e] [] (.one (.osl 0 0 ws.length (some ws.length))) [some ⟨Ints (divN ws ds t.toNat), 1⟩] := by
  have hV := valid_iff hv
  have ht : 0 ≤ t ∧ t ≤ 65536 := by have := hV.1; simpa only [isU, Bool.and_eq_true, decide_eq_true_eq] using this
  have hx1 : inL ws 1 10000 = true := by
    rw [inL_iff]; intro i hi
    have := (hV.2.2.2 i hi).1; simpa only [isW, Bool.and_eq_true, decide_eq_true_eq] using this
  have hx2 : inL ds 0 65536 = true := by
    rw [inL_iff]; intro i hi
    have := (hV.2.2.2 i (by omega)).2; simpa only [isU, Bool.and_eq_true, decide_eq_true_eq] using this
  refine fnspec_of mixed TT_ok TT_cl ⟨fun _ => false, fun _ => [], 0, fun _ => false, fun _ => false⟩ Try.func21 rfl (by kernel_rfl) rfl 38 rfl [.tmp 6] rfl ?_
  simp only [go_sem, Nat.reduceEqDiff, Nat.reduceAdd, Nat.reduceSub, Nat.reduceMul, Nat.reduceLT, Nat.reduceLeDiff, ↓reduceIte, reduceCtorEq, List.reduceReplicate, Int.cast_ofNat_Int]
  repeat' (first
    | with_reducible refine And.intro ?_ ?_
    | (unfold OKC; kernel_rfl)
    | (apply okc_up <;> (first | ((repeat (first | exact Sub.nil | apply Sub.gfp | apply Sub.same)); done) | kernel_rfl))
    | (unfold EDG; kernel_rfl)
    | (intros; (try simp only [Bool.and_eq_true, Bool.or_eq_true, Bool.not_eq_true', Bool.not_eq_false', Bool.and_eq_false_iff, Bool.or_eq_false_iff, decide_eq_true_eq, decide_eq_false_iff_not] at *); omega)
    | (refine gt_if (fun h => ?_) (fun h => ?_) <;> (first | (simp only [h, hv, go_sem, Nat.reduceEqDiff, Nat.reduceAdd, Nat.reduceSub, Nat.reduceMul, Nat.reduceLT, Nat.reduceLeDiff, ↓reduceIte, reduceCtorEq, List.reduceReplicate, Int.cast_ofNat_Int]; done) | simp only [h, hv, go_sem, Nat.reduceEqDiff, Nat.reduceAdd, Nat.reduceSub, Nat.reduceMul, Nat.reduceLT, Nat.reduceLeDiff, ↓reduceIte, reduceCtorEq, List.reduceReplicate, Int.cast_ofNat_Int] | skip))
    | (refine pt_if (fun h => ?_) (fun h => ?_) <;> (first | (simp only [h, hv, go_sem, Nat.reduceEqDiff, Nat.reduceAdd, Nat.reduceSub, Nat.reduceMul, Nat.reduceLT, Nat.reduceLeDiff, ↓reduceIte, reduceCtorEq, List.reduceReplicate, Int.cast_ofNat_Int]; done) | simp only [h, hv, go_sem, Nat.reduceEqDiff, Nat.reduceAdd, Nat.reduceSub, Nat.reduceMul, Nat.reduceLT, Nat.reduceLeDiff, ↓reduceIte, reduceCtorEq, List.reduceReplicate, Int.cast_ofNat_Int] | skip))
    | (refine cd_if (fun h => ?_) (fun h => ?_) <;> (first | (simp only [h, hv, go_sem, Nat.reduceEqDiff, Nat.reduceAdd, Nat.reduceSub, Nat.reduceMul, Nat.reduceLT, Nat.reduceLeDiff, ↓reduceIte, reduceCtorEq, List.reduceReplicate, Int.cast_ofNat_Int]; done) | simp only [h, hv, go_sem, Nat.reduceEqDiff, Nat.reduceAdd, Nat.reduceSub, Nat.reduceMul, Nat.reduceLT, Nat.reduceLeDiff, ↓reduceIte, reduceCtorEq, List.reduceReplicate, Int.cast_ofNat_Int] | skip))
    | (apply cg_tp
       case hl => rfl
       case ha => (simp only [List.map_cons, List.map_nil, prepV, prepC, idx, hpL', lookR, Nat.reduceEqDiff, if_true, if_false]; rfl)
       case hs => rfl
       case h => (first | exact rvalid_spec _ _ _ _ _ (by omega) (by omega))
       case' hk => simp only [hv, go_sem, Nat.reduceEqDiff, Nat.reduceAdd, Nat.reduceSub, Nat.reduceMul, Nat.reduceLT, Nat.reduceLeDiff, ↓reduceIte, reduceCtorEq, List.reduceReplicate, Int.cast_ofNat_Int, SV.ren, SV.renL, Cell.ren])
    | (apply cg_any
       case hl => rfl
       case ha => (intro hb; simp only [List.map_cons, List.map_nil, cnd, hb, if_true, prepV, prepC, idx, hpL', lookR, Nat.reduceEqDiff, if_false]; rfl)
       case hs => (intro hb; simp only [cnd, hb, if_true]; rfl)
       case h => (first | exact rvalid_spec _ _ _ _ _ (by omega) (by omega))
       case' hk => simp only [hv, go_sem, Nat.reduceEqDiff, Nat.reduceAdd, Nat.reduceSub, Nat.reduceMul, Nat.reduceLT, Nat.reduceLeDiff, ↓reduceIte, reduceCtorEq, List.reduceReplicate, Int.cast_ofNat_Int, SV.ren, SV.renL, Cell.ren])
    | (apply cl_plain
       case hs => rfl
       case ha => (simp only [List.map_cons, List.map_nil, prepV, prepC, idx, hpL', lookR, Nat.reduceEqDiff, if_true, if_false]; rfl)
       case h => (first | exact rvalid_spec _ _ _ _ _ (by omega) (by omega))
       case' hk => simp only [hv, go_sem, Nat.reduceEqDiff, Nat.reduceAdd, Nat.reduceSub, Nat.reduceMul, Nat.reduceLT, Nat.reduceLeDiff, ↓reduceIte, reduceCtorEq, List.reduceReplicate, Int.cast_ofNat_Int, SV.ren, SV.renL, Cell.ren, Row.ren, renO, bk, back, outUpsFrom, Ints_ren])
    | (apply cl_show
       case ha => (simp only [List.map_cons, List.map_nil, prepV, prepC, idx, hpL', lookR, Nat.reduceEqDiff, if_true, if_false]; rfl)
       case hs => ((simp [snaps, SV.refs, Cell.refs, idx, hpL', lookR]) <;> (repeat' apply And.intro) <;> exact Ints_isG _)
       case h => (first | exact rvalid_spec _ _ _ _ _ (by omega) (by omega))
       case hg => ((simp [SV.noG, SV.noGL, Cell.noG]) <;> (repeat' apply And.intro) <;> exact Ints_noG _)
       case' hk => simp only [hv, go_sem, Nat.reduceEqDiff, Nat.reduceAdd, Nat.reduceSub, Nat.reduceMul, Nat.reduceLT, Nat.reduceLeDiff, ↓reduceIte, reduceCtorEq, List.reduceReplicate, Int.cast_ofNat_Int, SV.ren, SV.renL, Cell.ren, Row.ren, renO, bk, back, outUpsFrom, Ints_ren])
    | (apply fs_nil <;> (try simp only [go_sem, resV, resS, SV.ren, SV.renL, Cell.ren, St.tmF, St.hpF, idx, renO, Row.ren, evS, slot, lookR, Nat.reduceEqDiff, ↓reduceIte, reduceCtorEq, if_true, if_false, Option.getD_some, Option.getD_none, List.map_cons, List.map_nil, sLoad, readAt, readNeed, Ints_ren, Ints_length, Ints_getD, and_true, true_and, List.getD_cons_zero, List.getD_cons_succ]) <;> (try rfl)))
  refine w_loop (ι := Nat) (fun n => ⟨[(0, i1 (t - n)), (7, .one (  .osl 8 0 ws.length (some ws.length))), (1, gi ws d), (2, gi ds e)], [(8, some ⟨Ints (divN ws ds n), 1⟩)], 12⟩) (fun n => n ≤ t.toNat) (fun n => t.toNat - n) 0 ?_ (Nat.zero_le _) ?_
  · (refine imp_ints _ _ _ [(8, List.replicate ws.length 0)] (by simp) (by simp) (Nat.zero_le _) ?_ rfl (by simp only [List.forall_mem_cons, List.not_mem_nil, false_implies, implies_true, and_true, St.hpF, lookR, Nat.reduceEqDiff, if_true, if_false, ↓reduceIte]); simp only [List.map_cons, List.map_nil, List.forall_mem_cons, List.not_mem_nil, false_implies, implies_true, and_true, lk, slot, SV.ren, Cell.ren, toN, Nat.reduceEqDiff, if_true, if_false, ↓reduceIte, reduceCtorEq])
    rw [show t - ((0 : Nat) : Int) = t by omega]
    all_goals ((repeat' apply And.intro) <;> (first | rfl | trivial))
  intro n hn
  have hl := divN_length ws ds n
  have hge := divN_ge ws ds n
  have hfair := fair_divN hV.2.2.1 hV.2.2.2 n
  have hx3 : inL (divN ws ds n) 0 65536 = true := by
    rw [inL_iff]; intro i hi
    rw [hl] at hi
    have h1 := hfair.hi i hi
    have h2 := hfair.lo i hi
    have h3 := (hV.2.2.2 i hi).2
    simp only [isU, Bool.and_eq_true, decide_eq_true_eq] at h3
    omega
  have hf := rfirst_spec ws (divN ws ds n) ds d (some ws.length) e (.inl hV.2.1) (by omega) (by omega) (by omega)
  rw [firstG_yes hV.2.1 ⟨hl, hV.2.2.1, hx1, hx3, hx2⟩] at hf
  simp only [gi, hl] at hf
  rcases Nat.lt_or_ge n t.toNat with hnt | hnt
  · have hp : 0 < t - n := by omega
    cases hok : (firstN ws (divN ws ds n) ds ws.length).2 with
    | false =>
      have hst : divN ws ds t.toNat = divN ws ds n := by
        have := divN_stop ws ds hok (t.toNat - n)
        rwa [show n + (t.toNat - n) = t.toNat by omega] at this
      rw [hst]
      simp only [go_sem, Nat.reduceEqDiff, Nat.reduceAdd, Nat.reduceSub, Nat.reduceMul, Nat.reduceLT, Nat.reduceLeDiff, ↓reduceIte, reduceCtorEq, List.reduceReplicate, Int.cast_ofNat_Int, decide_eq_true hp]
      repeat' (first
    | with_reducible refine And.intro ?_ ?_
    | (unfold OKC; kernel_rfl)
    | (apply okc_up <;> (first | ((repeat (first | exact Sub.nil | apply Sub.gfp | apply Sub.same)); done) | kernel_rfl))
    | (unfold EDG; kernel_rfl)
    | (intros; (try simp only [Bool.and_eq_true, Bool.or_eq_true, Bool.not_eq_true', Bool.not_eq_false', Bool.and_eq_false_iff, Bool.or_eq_false_iff, decide_eq_true_eq, decide_eq_false_iff_not] at *); omega)
    | (refine gt_if (fun h => ?_) (fun h => ?_) <;> (first | (simp only [h, hok, go_sem, Nat.reduceEqDiff, Nat.reduceAdd, Nat.reduceSub, Nat.reduceMul, Nat.reduceLT, Nat.reduceLeDiff, ↓reduceIte, reduceCtorEq, List.reduceReplicate, Int.cast_ofNat_Int]; done) | simp only [h, hok, go_sem, Nat.reduceEqDiff, Nat.reduceAdd, Nat.reduceSub, Nat.reduceMul, Nat.reduceLT, Nat.reduceLeDiff, ↓reduceIte, reduceCtorEq, List.reduceReplicate, Int.cast_ofNat_Int] | skip))
    | (refine pt_if (fun h => ?_) (fun h => ?_) <;> (first | (simp only [h, hok, go_sem, Nat.reduceEqDiff, Nat.reduceAdd, Nat.reduceSub, Nat.reduceMul, Nat.reduceLT, Nat.reduceLeDiff, ↓reduceIte, reduceCtorEq, List.reduceReplicate, Int.cast_ofNat_Int]; done) | simp only [h, hok, go_sem, Nat.reduceEqDiff, Nat.reduceAdd, Nat.reduceSub, Nat.reduceMul, Nat.reduceLT, Nat.reduceLeDiff, ↓reduceIte, reduceCtorEq, List.reduceReplicate, Int.cast_ofNat_Int] | skip))
    | (refine cd_if (fun h => ?_) (fun h => ?_) <;> (first | (simp only [h, hok, go_sem, Nat.reduceEqDiff, Nat.reduceAdd, Nat.reduceSub, Nat.reduceMul, Nat.reduceLT, Nat.reduceLeDiff, ↓reduceIte, reduceCtorEq, List.reduceReplicate, Int.cast_ofNat_Int]; done) | simp only [h, hok, go_sem, Nat.reduceEqDiff, Nat.reduceAdd, Nat.reduceSub, Nat.reduceMul, Nat.reduceLT, Nat.reduceLeDiff, ↓reduceIte, reduceCtorEq, List.reduceReplicate, Int.cast_ofNat_Int] | skip))
    | (apply cg_tp
       case hl => rfl
       case ha => (simp only [List.map_cons, List.map_nil, prepV, prepC, idx, hpL', lookR, Nat.reduceEqDiff, if_true, if_false]; rfl)
       case hs => rfl
       case h => (first | exact hf ..)
       case' hk => simp only [hok, go_sem, Nat.reduceEqDiff, Nat.reduceAdd, Nat.reduceSub, Nat.reduceMul, Nat.reduceLT, Nat.reduceLeDiff, ↓reduceIte, reduceCtorEq, List.reduceReplicate, Int.cast_ofNat_Int, SV.ren, SV.renL, Cell.ren])
    | (apply cg_any
       case hl => rfl
       case ha => (intro hb; simp only [List.map_cons, List.map_nil, cnd, hb, if_true, prepV, prepC, idx, hpL', lookR, Nat.reduceEqDiff, if_false]; rfl)
       case hs => (intro hb; simp only [cnd, hb, if_true]; rfl)
       case h => (first | exact hf ..)
       case' hk => simp only [hok, go_sem, Nat.reduceEqDiff, Nat.reduceAdd, Nat.reduceSub, Nat.reduceMul, Nat.reduceLT, Nat.reduceLeDiff, ↓reduceIte, reduceCtorEq, List.reduceReplicate, Int.cast_ofNat_Int, SV.ren, SV.renL, Cell.ren])
    | (apply cl_plain
       case hs => rfl
       case ha => (simp only [List.map_cons, List.map_nil, prepV, prepC, idx, hpL', lookR, Nat.reduceEqDiff, if_true, if_false]; rfl)
       case h => (first | exact hf ..)
       case' hk => simp only [hok, go_sem, Nat.reduceEqDiff, Nat.reduceAdd, Nat.reduceSub, Nat.reduceMul, Nat.reduceLT, Nat.reduceLeDiff, ↓reduceIte, reduceCtorEq, List.reduceReplicate, Int.cast_ofNat_Int, SV.ren, SV.renL, Cell.ren, Row.ren, renO, bk, back, outUpsFrom, Ints_ren])
    | (apply cl_show
       case ha => (simp only [List.map_cons, List.map_nil, prepV, prepC, idx, hpL', lookR, Nat.reduceEqDiff, if_true, if_false]; rfl)
       case hs => ((simp [snaps, SV.refs, Cell.refs, idx, hpL', lookR]) <;> (repeat' apply And.intro) <;> exact Ints_isG _)
       case h => (first | exact hf ..)
       case hg => ((simp [SV.noG, SV.noGL, Cell.noG]) <;> (repeat' apply And.intro) <;> exact Ints_noG _)
       case' hk => simp only [hok, go_sem, Nat.reduceEqDiff, Nat.reduceAdd, Nat.reduceSub, Nat.reduceMul, Nat.reduceLT, Nat.reduceLeDiff, ↓reduceIte, reduceCtorEq, List.reduceReplicate, Int.cast_ofNat_Int, SV.ren, SV.renL, Cell.ren, Row.ren, renO, bk, back, outUpsFrom, Ints_ren]))
      (refine fs_ints [(8, divN ws ds n)] (by simp) (by simp) (by simp only [go_sem, resV, resS, SV.ren, SV.renL, Cell.ren, St.tmF, St.hpF, idx, renO, Row.ren, evS, slot, lookR, Nat.reduceEqDiff, ↓reduceIte, reduceCtorEq, if_true, if_false, Option.getD_some, Option.getD_none, List.map_cons, List.map_nil, sLoad, readAt, readNeed, Ints_ren, Ints_length, Ints_getD, and_true, true_and, List.getD_cons_zero, List.getD_cons_succ]) ?_ (by simp only [List.forall_mem_cons, List.not_mem_nil, false_implies, implies_true, and_true, St.hpF, lookR, Nat.reduceEqDiff, if_true, if_false, ↓reduceIte]) ?_ <;> (try simp only [go_sem, resV, resS, SV.ren, SV.renL, Cell.ren, St.tmF, St.hpF, idx, renO, Row.ren, evS, slot, lookR, Nat.reduceEqDiff, ↓reduceIte, reduceCtorEq, if_true, if_false, Option.getD_some, Option.getD_none, List.map_cons, List.map_nil, sLoad, readAt, readNeed, Ints_ren, Ints_length, Ints_getD, and_true, true_and, List.getD_cons_zero, List.getD_cons_succ]) <;> (try rfl))
    | true =>
      have f1 := firstN_lt ws (divN ws ds n) ds ws.length hok
      have f2 := firstN_ok ws (divN ws ds n) ds ws.length hok
      have f3 := divN_ge ws ds n (firstN ws (divN ws ds n) ds ws.length).1.toNat
      have f4 := (hV.2.2.2 (firstN ws (divN ws ds n) ds ws.length).1.toNat (by omega)).2
      simp only [isU, Bool.and_eq_true, decide_eq_true_eq] at f4
      have hd : divN ws ds (n + 1) = (divN ws ds n).set (firstN ws (divN ws ds n) ds ws.length).1.toNat ((divN ws ds n).getD (firstN ws (divN ws ds n) ds ws.length).1.toNat 0 + 1) := by rw [divN, if_pos hok]; rfl
      simp only [go_sem, Nat.reduceEqDiff, Nat.reduceAdd, Nat.reduceSub, Nat.reduceMul, Nat.reduceLT, Nat.reduceLeDiff, ↓reduceIte, reduceCtorEq, List.reduceReplicate, Int.cast_ofNat_Int, decide_eq_true hp]
      repeat' (first
    | with_reducible refine And.intro ?_ ?_
    | (unfold OKC; kernel_rfl)
    | (apply okc_up <;> (first | ((repeat (first | exact Sub.nil | apply Sub.gfp | apply Sub.same)); done) | kernel_rfl))
    | (unfold EDG; kernel_rfl)
    | (intros; (try simp only [Bool.and_eq_true, Bool.or_eq_true, Bool.not_eq_true', Bool.not_eq_false', Bool.and_eq_false_iff, Bool.or_eq_false_iff, decide_eq_true_eq, decide_eq_false_iff_not] at *); omega)
    | (refine gt_if (fun h => ?_) (fun h => ?_) <;> (first | (simp only [h, hok, go_sem, Nat.reduceEqDiff, Nat.reduceAdd, Nat.reduceSub, Nat.reduceMul, Nat.reduceLT, Nat.reduceLeDiff, ↓reduceIte, reduceCtorEq, List.reduceReplicate, Int.cast_ofNat_Int]; done) | simp only [h, hok, go_sem, Nat.reduceEqDiff, Nat.reduceAdd, Nat.reduceSub, Nat.reduceMul, Nat.reduceLT, Nat.reduceLeDiff, ↓reduceIte, reduceCtorEq, List.reduceReplicate, Int.cast_ofNat_Int] | skip))
    | (refine pt_if (fun h => ?_) (fun h => ?_) <;> (first | (simp only [h, hok, go_sem, Nat.reduceEqDiff, Nat.reduceAdd, Nat.reduceSub, Nat.reduceMul, Nat.reduceLT, Nat.reduceLeDiff, ↓reduceIte, reduceCtorEq, List.reduceReplicate, Int.cast_ofNat_Int]; done) | simp only [h, hok, go_sem, Nat.reduceEqDiff, Nat.reduceAdd, Nat.reduceSub, Nat.reduceMul, Nat.reduceLT, Nat.reduceLeDiff, ↓reduceIte, reduceCtorEq, List.reduceReplicate, Int.cast_ofNat_Int] | skip))
    | (refine cd_if (fun h => ?_) (fun h => ?_) <;> (first | (simp only [h, hok, go_sem, Nat.reduceEqDiff, Nat.reduceAdd, Nat.reduceSub, Nat.reduceMul, Nat.reduceLT, Nat.reduceLeDiff, ↓reduceIte, reduceCtorEq, List.reduceReplicate, Int.cast_ofNat_Int]; done) | simp only [h, hok, go_sem, Nat.reduceEqDiff, Nat.reduceAdd, Nat.reduceSub, Nat.reduceMul, Nat.reduceLT, Nat.reduceLeDiff, ↓reduceIte, reduceCtorEq, List.reduceReplicate, Int.cast_ofNat_Int] | skip))
    | (apply cg_tp
       case hl => rfl
       case ha => (simp only [List.map_cons, List.map_nil, prepV, prepC, idx, hpL', lookR, Nat.reduceEqDiff, if_true, if_false]; rfl)
       case hs => rfl
       case h => (first | exact hf ..)
       case' hk => simp only [hok, go_sem, Nat.reduceEqDiff, Nat.reduceAdd, Nat.reduceSub, Nat.reduceMul, Nat.reduceLT, Nat.reduceLeDiff, ↓reduceIte, reduceCtorEq, List.reduceReplicate, Int.cast_ofNat_Int, SV.ren, SV.renL, Cell.ren])
    | (apply cg_any
       case hl => rfl
       case ha => (intro hb; simp only [List.map_cons, List.map_nil, cnd, hb, if_true, prepV, prepC, idx, hpL', lookR, Nat.reduceEqDiff, if_false]; rfl)
       case hs => (intro hb; simp only [cnd, hb, if_true]; rfl)
       case h => (first | exact hf ..)
       case' hk => simp only [hok, go_sem, Nat.reduceEqDiff, Nat.reduceAdd, Nat.reduceSub, Nat.reduceMul, Nat.reduceLT, Nat.reduceLeDiff, ↓reduceIte, reduceCtorEq, List.reduceReplicate, Int.cast_ofNat_Int, SV.ren, SV.renL, Cell.ren])
    | (apply cl_plain
       case hs => rfl
       case ha => (simp only [List.map_cons, List.map_nil, prepV, prepC, idx, hpL', lookR, Nat.reduceEqDiff, if_true, if_false]; rfl)
       case h => (first | exact hf ..)
       case' hk => simp only [hok, go_sem, Nat.reduceEqDiff, Nat.reduceAdd, Nat.reduceSub, Nat.reduceMul, Nat.reduceLT, Nat.reduceLeDiff, ↓reduceIte, reduceCtorEq, List.reduceReplicate, Int.cast_ofNat_Int, SV.ren, SV.renL, Cell.ren, Row.ren, renO, bk, back, outUpsFrom, Ints_ren])
    | (apply cl_show
       case ha => (simp only [List.map_cons, List.map_nil, prepV, prepC, idx, hpL', lookR, Nat.reduceEqDiff, if_true, if_false]; rfl)
       case hs => ((simp [snaps, SV.refs, Cell.refs, idx, hpL', lookR]) <;> (repeat' apply And.intro) <;> exact Ints_isG _)
       case h => (first | exact hf ..)
       case hg => ((simp [SV.noG, SV.noGL, Cell.noG]) <;> (repeat' apply And.intro) <;> exact Ints_noG _)
       case' hk => simp only [hok, go_sem, Nat.reduceEqDiff, Nat.reduceAdd, Nat.reduceSub, Nat.reduceMul, Nat.reduceLT, Nat.reduceLeDiff, ↓reduceIte, reduceCtorEq, List.reduceReplicate, Int.cast_ofNat_Int, SV.ren, SV.renL, Cell.ren, Row.ren, renO, bk, back, outUpsFrom, Ints_ren]))
      all_goals try omega
      refine le_mk (n + 1) ?_ (by omega) (by omega)
      (refine imp_ints _ _ _ [(8, divN ws ds (n + 1))] (by simp) (by simp) (Nat.zero_le _) ?_ rfl (by simp only [List.forall_mem_cons, List.not_mem_nil, false_implies, implies_true, and_true, St.hpF, lookR, Nat.reduceEqDiff, if_true, if_false, ↓reduceIte, hd]); simp only [List.map_cons, List.map_nil, List.forall_mem_cons, List.not_mem_nil, false_implies, implies_true, and_true, lk, slot, SV.ren, Cell.ren, toN, Nat.reduceEqDiff, if_true, if_false, ↓reduceIte, reduceCtorEq])
      rw [show t - (n : Int) - 1 = t - ((n + 1 : Nat) : Int) by omega]
      all_goals ((repeat' apply And.intro) <;> (first | rfl | trivial))
  · have hp : ¬ 0 < t - n := by omega
    rw [show t.toNat = n by omega]
    simp only [go_sem, Nat.reduceEqDiff, Nat.reduceAdd, Nat.reduceSub, Nat.reduceMul, Nat.reduceLT, Nat.reduceLeDiff, ↓reduceIte, reduceCtorEq, List.reduceReplicate, Int.cast_ofNat_Int, decide_eq_false hp]
    repeat' (first
    | with_reducible refine And.intro ?_ ?_
    | (unfold OKC; kernel_rfl)
    | (apply okc_up <;> (first | ((repeat (first | exact Sub.nil | apply Sub.gfp | apply Sub.same)); done) | kernel_rfl))
    | (unfold EDG; kernel_rfl)
    | (intros; (try simp only [Bool.and_eq_true, Bool.or_eq_true, Bool.not_eq_true', Bool.not_eq_false', Bool.and_eq_false_iff, Bool.or_eq_false_iff, decide_eq_true_eq, decide_eq_false_iff_not] at *); omega)
    | (refine gt_if (fun h => ?_) (fun h => ?_) <;> (first | (simp only [h, go_sem, Nat.reduceEqDiff, Nat.reduceAdd, Nat.reduceSub, Nat.reduceMul, Nat.reduceLT, Nat.reduceLeDiff, ↓reduceIte, reduceCtorEq, List.reduceReplicate, Int.cast_ofNat_Int]; done) | simp only [h, go_sem, Nat.reduceEqDiff, Nat.reduceAdd, Nat.reduceSub, Nat.reduceMul, Nat.reduceLT, Nat.reduceLeDiff, ↓reduceIte, reduceCtorEq, List.reduceReplicate, Int.cast_ofNat_Int] | skip))
    | (refine pt_if (fun h => ?_) (fun h => ?_) <;> (first | (simp only [h, go_sem, Nat.reduceEqDiff, Nat.reduceAdd, Nat.reduceSub, Nat.reduceMul, Nat.reduceLT, Nat.reduceLeDiff, ↓reduceIte, reduceCtorEq, List.reduceReplicate, Int.cast_ofNat_Int]; done) | simp only [h, go_sem, Nat.reduceEqDiff, Nat.reduceAdd, Nat.reduceSub, Nat.reduceMul, Nat.reduceLT, Nat.reduceLeDiff, ↓reduceIte, reduceCtorEq, List.reduceReplicate, Int.cast_ofNat_Int] | skip))
    | (refine cd_if (fun h => ?_) (fun h => ?_) <;> (first | (simp only [h, go_sem, Nat.reduceEqDiff, Nat.reduceAdd, Nat.reduceSub, Nat.reduceMul, Nat.reduceLT, Nat.reduceLeDiff, ↓reduceIte, reduceCtorEq, List.reduceReplicate, Int.cast_ofNat_Int]; done) | simp only [h, go_sem, Nat.reduceEqDiff, Nat.reduceAdd, Nat.reduceSub, Nat.reduceMul, Nat.reduceLT, Nat.reduceLeDiff, ↓reduceIte, reduceCtorEq, List.reduceReplicate, Int.cast_ofNat_Int] | skip))
    | (apply cg_tp
       case hl => rfl
       case ha => (simp only [List.map_cons, List.map_nil, prepV, prepC, idx, hpL', lookR, Nat.reduceEqDiff, if_true, if_false]; rfl)
       case hs => rfl
       case h => (first | exact hf ..)
       case' hk => simp only [go_sem, Nat.reduceEqDiff, Nat.reduceAdd, Nat.reduceSub, Nat.reduceMul, Nat.reduceLT, Nat.reduceLeDiff, ↓reduceIte, reduceCtorEq, List.reduceReplicate, Int.cast_ofNat_Int, SV.ren, SV.renL, Cell.ren])
    | (apply cg_any
       case hl => rfl
       case ha => (intro hb; simp only [List.map_cons, List.map_nil, cnd, hb, if_true, prepV, prepC, idx, hpL', lookR, Nat.reduceEqDiff, if_false]; rfl)
       case hs => (intro hb; simp only [cnd, hb, if_true]; rfl)
       case h => (first | exact hf ..)
       case' hk => simp only [go_sem, Nat.reduceEqDiff, Nat.reduceAdd, Nat.reduceSub, Nat.reduceMul, Nat.reduceLT, Nat.reduceLeDiff, ↓reduceIte, reduceCtorEq, List.reduceReplicate, Int.cast_ofNat_Int, SV.ren, SV.renL, Cell.ren])
    | (apply cl_plain
       case hs => rfl
       case ha => (simp only [List.map_cons, List.map_nil, prepV, prepC, idx, hpL', lookR, Nat.reduceEqDiff, if_true, if_false]; rfl)
       case h => (first | exact hf ..)
       case' hk => simp only [go_sem, Nat.reduceEqDiff, Nat.reduceAdd, Nat.reduceSub, Nat.reduceMul, Nat.reduceLT, Nat.reduceLeDiff, ↓reduceIte, reduceCtorEq, List.reduceReplicate, Int.cast_ofNat_Int, SV.ren, SV.renL, Cell.ren, Row.ren, renO, bk, back, outUpsFrom, Ints_ren])
    | (apply cl_show
       case ha => (simp only [List.map_cons, List.map_nil, prepV, prepC, idx, hpL', lookR, Nat.reduceEqDiff, if_true, if_false]; rfl)
       case hs => ((simp [snaps, SV.refs, Cell.refs, idx, hpL', lookR]) <;> (repeat' apply And.intro) <;> exact Ints_isG _)
       case h => (first | exact hf ..)
       case hg => ((simp [SV.noG, SV.noGL, Cell.noG]) <;> (repeat' apply And.intro) <;> exact Ints_noG _)
       case' hk => simp only [go_sem, Nat.reduceEqDiff, Nat.reduceAdd, Nat.reduceSub, Nat.reduceMul, Nat.reduceLT, Nat.reduceLeDiff, ↓reduceIte, reduceCtorEq, List.reduceReplicate, Int.cast_ofNat_Int, SV.ren, SV.renL, Cell.ren, Row.ren, renO, bk, back, outUpsFrom, Ints_ren]))
    (refine fs_ints [(8, divN ws ds n)] (by simp) (by simp) (by simp only [go_sem, resV, resS, SV.ren, SV.renL, Cell.ren, St.tmF, St.hpF, idx, renO, Row.ren, evS, slot, lookR, Nat.reduceEqDiff, ↓reduceIte, reduceCtorEq, if_true, if_false, Option.getD_some, Option.getD_none, List.map_cons, List.map_nil, sLoad, readAt, readNeed, Ints_ren, Ints_length, Ints_getD, and_true, true_and, List.getD_cons_zero, List.getD_cons_succ]) ?_ (by simp only [List.forall_mem_cons, List.not_mem_nil, false_implies, implies_true, and_true, St.hpF, lookR, Nat.reduceEqDiff, if_true, if_false, ↓reduceIte]) ?_ <;> (try simp only [go_sem, resV, resS, SV.ren, SV.renL, Cell.ren, St.tmF, St.hpF, idx, renO, Row.ren, evS, slot, lookR, Nat.reduceEqDiff, ↓reduceIte, reduceCtorEq, if_true, if_false, Option.getD_some, Option.getD_none, List.map_cons, List.map_nil, sLoad, readAt, readNeed, Ints_ren, Ints_length, Ints_getD, and_true, true_and, List.getD_cons_zero, List.getD_cons_succ]) <;> (try rfl))
theorem rdiv_nil (t : Int) (ws ds : List Int) (d e : Option Nat) (h1 : ws.length ≤ 9223372036854775807) (h2 : ds.length ≤ 9223372036854775807) (hv : valid t ws ds = false) : FnSpec Try.prog 21 [i1 t, gi ws d, gi ds e] [] (V (.slice none 0 0)) [] := by
  refine fnspec_of mixed TT_ok TT_cl ⟨fun _ => false, fun _ => [], 0, fun _ => false, fun _ => false⟩ Try.func21 rfl (by kernel_rfl) rfl 38 rfl [.tmp 6] rfl ?_
  simp only [go_sem, Nat.reduceEqDiff, Nat.reduceAdd, Nat.reduceSub, Nat.reduceMul, Nat.reduceLT, Nat.reduceLeDiff, ↓reduceIte, reduceCtorEq, List.reduceReplicate, Int.cast_ofNat_Int]
  repeat' (first
    | with_reducible refine And.intro ?_ ?_
    | (unfold OKC; kernel_rfl)
    | (apply okc_up <;> (first | ((repeat (first | exact Sub.nil | apply Sub.gfp | apply Sub.same)); done) | kernel_rfl))
    | (unfold EDG; kernel_rfl)
    | (intros; (try simp only [Bool.and_eq_true, Bool.or_eq_true, Bool.not_eq_true', Bool.not_eq_false', Bool.and_eq_false_iff, Bool.or_eq_false_iff, decide_eq_true_eq, decide_eq_false_iff_not] at *); omega)
    | (refine gt_if (fun h => ?_) (fun h => ?_) <;> (first | (simp only [h, hv, go_sem, Nat.reduceEqDiff, Nat.reduceAdd, Nat.reduceSub, Nat.reduceMul, Nat.reduceLT, Nat.reduceLeDiff, ↓reduceIte, reduceCtorEq, List.reduceReplicate, Int.cast_ofNat_Int]; done) | simp only [h, hv, go_sem, Nat.reduceEqDiff, Nat.reduceAdd, Nat.reduceSub, Nat.reduceMul, Nat.reduceLT, Nat.reduceLeDiff, ↓reduceIte, reduceCtorEq, List.reduceReplicate, Int.cast_ofNat_Int] | skip))
    | (refine pt_if (fun h => ?_) (fun h => ?_) <;> (first | (simp only [h, hv, go_sem, Nat.reduceEqDiff, Nat.reduceAdd, Nat.reduceSub, Nat.reduceMul, Nat.reduceLT, Nat.reduceLeDiff, ↓reduceIte, reduceCtorEq, List.reduceReplicate, Int.cast_ofNat_Int]; done) | simp only [h, hv, go_sem, Nat.reduceEqDiff, Nat.reduceAdd, Nat.reduceSub, Nat.reduceMul, Nat.reduceLT, Nat.reduceLeDiff, ↓reduceIte, reduceCtorEq, List.reduceReplicate, Int.cast_ofNat_Int] | skip))
    | (refine cd_if (fun h => ?_) (fun h => ?_) <;> (first | (simp only [h, hv, go_sem, Nat.reduceEqDiff, Nat.reduceAdd, Nat.reduceSub, Nat.reduceMul, Nat.reduceLT, Nat.reduceLeDiff, ↓reduceIte, reduceCtorEq, List.reduceReplicate, Int.cast_ofNat_Int]; done) | simp only [h, hv, go_sem, Nat.reduceEqDiff, Nat.reduceAdd, Nat.reduceSub, Nat.reduceMul, Nat.reduceLT, Nat.reduceLeDiff, ↓reduceIte, reduceCtorEq, List.reduceReplicate, Int.cast_ofNat_Int] | skip))
    | (apply cg_tp
       case hl => rfl
       case ha => (simp only [List.map_cons, List.map_nil, prepV, prepC, idx, hpL', lookR, Nat.reduceEqDiff, if_true, if_false]; rfl)
       case hs => rfl
       case h => (first | exact rvalid_spec _ _ _ _ _ h1 h2)
       case' hk => simp only [hv, go_sem, Nat.reduceEqDiff, Nat.reduceAdd, Nat.reduceSub, Nat.reduceMul, Nat.reduceLT, Nat.reduceLeDiff, ↓reduceIte, reduceCtorEq, List.reduceReplicate, Int.cast_ofNat_Int, SV.ren, SV.renL, Cell.ren])
    | (apply cg_any
       case hl => rfl
       case ha => (intro hb; simp only [List.map_cons, List.map_nil, cnd, hb, if_true, prepV, prepC, idx, hpL', lookR, Nat.reduceEqDiff, if_false]; rfl)
       case hs => (intro hb; simp only [cnd, hb, if_true]; rfl)
       case h => (first | exact rvalid_spec _ _ _ _ _ h1 h2)
       case' hk => simp only [hv, go_sem, Nat.reduceEqDiff, Nat.reduceAdd, Nat.reduceSub, Nat.reduceMul, Nat.reduceLT, Nat.reduceLeDiff, ↓reduceIte, reduceCtorEq, List.reduceReplicate, Int.cast_ofNat_Int, SV.ren, SV.renL, Cell.ren])
    | (apply cl_plain
       case hs => rfl
       case ha => (simp only [List.map_cons, List.map_nil, prepV, prepC, idx, hpL', lookR, Nat.reduceEqDiff, if_true, if_false]; rfl)
       case h => (first | exact rvalid_spec _ _ _ _ _ h1 h2)
       case' hk => simp only [hv, go_sem, Nat.reduceEqDiff, Nat.reduceAdd, Nat.reduceSub, Nat.reduceMul, Nat.reduceLT, Nat.reduceLeDiff, ↓reduceIte, reduceCtorEq, List.reduceReplicate, Int.cast_ofNat_Int, SV.ren, SV.renL, Cell.ren, Row.ren, renO, bk, back, outUpsFrom, Ints_ren])
    | (apply cl_show
       case ha => (simp only [List.map_cons, List.map_nil, prepV, prepC, idx, hpL', lookR, Nat.reduceEqDiff, if_true, if_false]; rfl)
       case hs => ((simp [snaps, SV.refs, Cell.refs, idx, hpL', lookR]) <;> (repeat' apply And.intro) <;> exact Ints_isG _)
       case h => (first | exact rvalid_spec _ _ _ _ _ h1 h2)
       case hg => ((simp [SV.noG, SV.noGL, Cell.noG]) <;> (repeat' apply And.intro) <;> exact Ints_noG _)
       case' hk => simp only [hv, go_sem, Nat.reduceEqDiff, Nat.reduceAdd, Nat.reduceSub, Nat.reduceMul, Nat.reduceLT, Nat.reduceLeDiff, ↓reduceIte, reduceCtorEq, List.reduceReplicate, Int.cast_ofNat_Int, SV.ren, SV.renL, Cell.ren, Row.ren, renO, bk, back, outUpsFrom, Ints_ren])
    | (apply fs_nil <;> (try simp only [go_sem, resV, resS, SV.ren, SV.renL, Cell.ren, St.tmF, St.hpF, idx, renO, Row.ren, evS, slot, lookR, Nat.reduceEqDiff, ↓reduceIte, reduceCtorEq, if_true, if_false, Option.getD_some, Option.getD_none, List.map_cons, List.map_nil, sLoad, readAt, readNeed, Ints_ren, Ints_length, Ints_getD, and_true, true_and, List.getD_cons_zero, List.getD_cons_succ]) <;> (try rfl)))
theorem div_nil (t : Int) (ws ds : List Int) (d e : Option Nat) (hv : valid t ws ds = false) : FnSpec Try.prog 16 [i1 t, gi ws d, gi ds e] [] (V (.slice none 0 0)) [] := by
  refine fnspec_of mixed TT_ok TT_cl ⟨fun _ => false, fun _ => [], 0, fun _ => false, fun _ => false⟩ Try.func16 rfl (by kernel_rfl) rfl 38 rfl [.tmp 6] rfl ?_
  simp only [go_sem, Nat.reduceEqDiff, Nat.reduceAdd, Nat.reduceSub, Nat.reduceMul, Nat.reduceLT, Nat.reduceLeDiff, ↓reduceIte, reduceCtorEq, List.reduceReplicate, Int.cast_ofNat_Int]
  repeat' (first
    | with_reducible refine And.intro ?_ ?_
    | (unfold OKC; kernel_rfl)
    | (apply okc_up <;> (first | ((repeat (first | exact Sub.nil | apply Sub.gfp | apply Sub.same)); done) | kernel_rfl))
    | (unfold EDG; kernel_rfl)
    | (intros; (try simp only [Bool.and_eq_true, Bool.or_eq_true, Bool.not_eq_true', Bool.not_eq_false', Bool.and_eq_false_iff, Bool.or_eq_false_iff, decide_eq_true_eq, decide_eq_false_iff_not] at *); omega)
    | (refine gt_if (fun h => ?_) (fun h => ?_) <;> (first | (simp only [h, hv, go_sem, Nat.reduceEqDiff, Nat.reduceAdd, Nat.reduceSub, Nat.reduceMul, Nat.reduceLT, Nat.reduceLeDiff, ↓reduceIte, reduceCtorEq, List.reduceReplicate, Int.cast_ofNat_Int]; done) | simp only [h, hv, go_sem, Nat.reduceEqDiff, Nat.reduceAdd, Nat.reduceSub, Nat.reduceMul, Nat.reduceLT, Nat.reduceLeDiff, ↓reduceIte, reduceCtorEq, List.reduceReplicate, Int.cast_ofNat_Int] | skip))
    | (refine pt_if (fun h => ?_) (fun h => ?_) <;> (first | (simp only [h, hv, go_sem, Nat.reduceEqDiff, Nat.reduceAdd, Nat.reduceSub, Nat.reduceMul, Nat.reduceLT, Nat.reduceLeDiff, ↓reduceIte, reduceCtorEq, List.reduceReplicate, Int.cast_ofNat_Int]; done) | simp only [h, hv, go_sem, Nat.reduceEqDiff, Nat.reduceAdd, Nat.reduceSub, Nat.reduceMul, Nat.reduceLT, Nat.reduceLeDiff, ↓reduceIte, reduceCtorEq, List.reduceReplicate, Int.cast_ofNat_Int] | skip))
    | (refine cd_if (fun h => ?_) (fun h => ?_) <;> (first | (simp only [h, hv, go_sem, Nat.reduceEqDiff, Nat.reduceAdd, Nat.reduceSub, Nat.reduceMul, Nat.reduceLT, Nat.reduceLeDiff, ↓reduceIte, reduceCtorEq, List.reduceReplicate, Int.cast_ofNat_Int]; done) | simp only [h, hv, go_sem, Nat.reduceEqDiff, Nat.reduceAdd, Nat.reduceSub, Nat.reduceMul, Nat.reduceLT, Nat.reduceLeDiff, ↓reduceIte, reduceCtorEq, List.reduceReplicate, Int.cast_ofNat_Int] | skip))
    | (apply cg_tp
       case hl => rfl
       case ha => (simp only [List.map_cons, List.map_nil, prepV, prepC, idx, hpL', lookR, Nat.reduceEqDiff, if_true, if_false]; rfl)
       case hs => rfl
       case h => (first | exact valid_spec ..)
       case' hk => simp only [hv, go_sem, Nat.reduceEqDiff, Nat.reduceAdd, Nat.reduceSub, Nat.reduceMul, Nat.reduceLT, Nat.reduceLeDiff, ↓reduceIte, reduceCtorEq, List.reduceReplicate, Int.cast_ofNat_Int, SV.ren, SV.renL, Cell.ren])
    | (apply cg_any
       case hl => rfl
       case ha => (intro hb; simp only [List.map_cons, List.map_nil, cnd, hb, if_true, prepV, prepC, idx, hpL', lookR, Nat.reduceEqDiff, if_false]; rfl)
       case hs => (intro hb; simp only [cnd, hb, if_true]; rfl)
       case h => (first | exact valid_spec ..)
       case' hk => simp only [hv, go_sem, Nat.reduceEqDiff, Nat.reduceAdd, Nat.reduceSub, Nat.reduceMul, Nat.reduceLT, Nat.reduceLeDiff, ↓reduceIte, reduceCtorEq, List.reduceReplicate, Int.cast_ofNat_Int, SV.ren, SV.renL, Cell.ren])
    | (apply cl_plain
       case hs => rfl
       case ha => (simp only [List.map_cons, List.map_nil, prepV, prepC, idx, hpL', lookR, Nat.reduceEqDiff, if_true, if_false]; rfl)
       case h => (first | exact valid_spec ..)
       case' hk => simp only [hv, go_sem, Nat.reduceEqDiff, Nat.reduceAdd, Nat.reduceSub, Nat.reduceMul, Nat.reduceLT, Nat.reduceLeDiff, ↓reduceIte, reduceCtorEq, List.reduceReplicate, Int.cast_ofNat_Int, SV.ren, SV.renL, Cell.ren, Row.ren, renO, bk, back, outUpsFrom, Ints_ren])
    | (apply cl_show
       case ha => (simp only [List.map_cons, List.map_nil, prepV, prepC, idx, hpL', lookR, Nat.reduceEqDiff, if_true, if_false]; rfl)
       case hs => ((simp [snaps, SV.refs, Cell.refs, idx, hpL', lookR]) <;> (repeat' apply And.intro) <;> exact Ints_isG _)
       case h => (first | exact valid_spec ..)
       case hg => ((simp [SV.noG, SV.noGL, Cell.noG]) <;> (repeat' apply And.intro) <;> exact Ints_noG _)
       case' hk => simp only [hv, go_sem, Nat.reduceEqDiff, Nat.reduceAdd, Nat.reduceSub, Nat.reduceMul, Nat.reduceLT, Nat.reduceLeDiff, ↓reduceIte, reduceCtorEq, List.reduceReplicate, Int.cast_ofNat_Int, SV.ren, SV.renL, Cell.ren, Row.ren, renO, bk, back, outUpsFrom, Ints_ren])
    | (apply fs_nil <;> (try simp only [go_sem, resV, resS, SV.ren, SV.renL, Cell.ren, St.tmF, St.hpF, idx, renO, Row.ren, evS, slot, lookR, Nat.reduceEqDiff, ↓reduceIte, reduceCtorEq, if_true, if_false, Option.getD_some, Option.getD_none, List.map_cons, List.map_nil, sLoad, readAt, readNeed, Ints_ren, Ints_length, Ints_getD, and_true, true_and, List.getD_cons_zero, List.getD_cons_succ]) <;> (try rfl)))
theorem tree_nil (t : Int) (ps ws ds : List Int) (c d e : Option Nat) (hl : ps.length = ws.length) (hv : valid t ws ds = false) : FnSpec Try.prog 22 [i1 t, gi ps c, gi ws d, gi ds e] [] (V (.slice none 0 0)) [] := by
  refine fnspec_of mixed TT_ok TT_cl ⟨fun _ => false, fun _ => [], 0, fun _ => false, fun _ => false⟩ Try.func22 rfl (by kernel_rfl) rfl 70 rfl [.tmp 8] rfl ?_
  simp only [go_sem, Nat.reduceEqDiff, Nat.reduceAdd, Nat.reduceSub, Nat.reduceMul, Nat.reduceLT, Nat.reduceLeDiff, ↓reduceIte, reduceCtorEq, List.reduceReplicate, Int.cast_ofNat_Int]
  repeat' (first
    | with_reducible refine And.intro ?_ ?_
    | (unfold OKC; kernel_rfl)
    | (apply okc_up <;> (first | ((repeat (first | exact Sub.nil | apply Sub.gfp | apply Sub.same)); done) | kernel_rfl))
    | (unfold EDG; kernel_rfl)
    | (intros; (try simp only [Bool.and_eq_true, Bool.or_eq_true, Bool.not_eq_true', Bool.not_eq_false', Bool.and_eq_false_iff, Bool.or_eq_false_iff, decide_eq_true_eq, decide_eq_false_iff_not] at *); omega)
    | (refine gt_if (fun h => ?_) (fun h => ?_) <;> (first | (simp only [h, hv, go_sem, Nat.reduceEqDiff, Nat.reduceAdd, Nat.reduceSub, Nat.reduceMul, Nat.reduceLT, Nat.reduceLeDiff, ↓reduceIte, reduceCtorEq, List.reduceReplicate, Int.cast_ofNat_Int]; done) | simp only [h, hv, go_sem, Nat.reduceEqDiff, Nat.reduceAdd, Nat.reduceSub, Nat.reduceMul, Nat.reduceLT, Nat.reduceLeDiff, ↓reduceIte, reduceCtorEq, List.reduceReplicate, Int.cast_ofNat_Int] | skip))
    | (refine pt_if (fun h => ?_) (fun h => ?_) <;> (first | (simp only [h, hv, go_sem, Nat.reduceEqDiff, Nat.reduceAdd, Nat.reduceSub, Nat.reduceMul, Nat.reduceLT, Nat.reduceLeDiff, ↓reduceIte, reduceCtorEq, List.reduceReplicate, Int.cast_ofNat_Int]; done) | simp only [h, hv, go_sem, Nat.reduceEqDiff, Nat.reduceAdd, Nat.reduceSub, Nat.reduceMul, Nat.reduceLT, Nat.reduceLeDiff, ↓reduceIte, reduceCtorEq, List.reduceReplicate, Int.cast_ofNat_Int] | skip))
    | (refine cd_if (fun h => ?_) (fun h => ?_) <;> (first | (simp only [h, hv, go_sem, Nat.reduceEqDiff, Nat.reduceAdd, Nat.reduceSub, Nat.reduceMul, Nat.reduceLT, Nat.reduceLeDiff, ↓reduceIte, reduceCtorEq, List.reduceReplicate, Int.cast_ofNat_Int]; done) | simp only [h, hv, go_sem, Nat.reduceEqDiff, Nat.reduceAdd, Nat.reduceSub, Nat.reduceMul, Nat.reduceLT, Nat.reduceLeDiff, ↓reduceIte, reduceCtorEq, List.reduceReplicate, Int.cast_ofNat_Int] | skip))
    | (apply cg_tp
       case hl => rfl
       case ha => (simp only [List.map_cons, List.map_nil, prepV, prepC, idx, hpL', lookR, Nat.reduceEqDiff, if_true, if_false]; rfl)
       case hs => rfl
       case h => (first | exact valid_spec ..)
       case' hk => simp only [hv, go_sem, Nat.reduceEqDiff, Nat.reduceAdd, Nat.reduceSub, Nat.reduceMul, Nat.reduceLT, Nat.reduceLeDiff, ↓reduceIte, reduceCtorEq, List.reduceReplicate, Int.cast_ofNat_Int, SV.ren, SV.renL, Cell.ren])
    | (apply cg_any
       case hl => rfl
       case ha => (intro hb; simp only [List.map_cons, List.map_nil, cnd, hb, if_true, prepV, prepC, idx, hpL', lookR, Nat.reduceEqDiff, if_false]; rfl)
       case hs => (intro hb; simp only [cnd, hb, if_true]; rfl)
       case h => (first | exact valid_spec ..)
       case' hk => simp only [hv, go_sem, Nat.reduceEqDiff, Nat.reduceAdd, Nat.reduceSub, Nat.reduceMul, Nat.reduceLT, Nat.reduceLeDiff, ↓reduceIte, reduceCtorEq, List.reduceReplicate, Int.cast_ofNat_Int, SV.ren, SV.renL, Cell.ren])
    | (apply cl_plain
       case hs => rfl
       case ha => (simp only [List.map_cons, List.map_nil, prepV, prepC, idx, hpL', lookR, Nat.reduceEqDiff, if_true, if_false]; rfl)
       case h => (first | exact valid_spec ..)
       case' hk => simp only [hv, go_sem, Nat.reduceEqDiff, Nat.reduceAdd, Nat.reduceSub, Nat.reduceMul, Nat.reduceLT, Nat.reduceLeDiff, ↓reduceIte, reduceCtorEq, List.reduceReplicate, Int.cast_ofNat_Int, SV.ren, SV.renL, Cell.ren, Row.ren, renO, bk, back, outUpsFrom, Ints_ren])
    | (apply cl_show
       case ha => (simp only [List.map_cons, List.map_nil, prepV, prepC, idx, hpL', lookR, Nat.reduceEqDiff, if_true, if_false]; rfl)
       case hs => ((simp [snaps, SV.refs, Cell.refs, idx, hpL', lookR]) <;> (repeat' apply And.intro) <;> exact Ints_isG _)
       case h => (first | exact valid_spec ..)
       case hg => ((simp [SV.noG, SV.noGL, Cell.noG]) <;> (repeat' apply And.intro) <;> exact Ints_noG _)
       case' hk => simp only [hv, go_sem, Nat.reduceEqDiff, Nat.reduceAdd, Nat.reduceSub, Nat.reduceMul, Nat.reduceLT, Nat.reduceLeDiff, ↓reduceIte, reduceCtorEq, List.reduceReplicate, Int.cast_ofNat_Int, SV.ren, SV.renL, Cell.ren, Row.ren, renO, bk, back, outUpsFrom, Ints_ren])
    | (apply fs_nil <;> (try simp only [go_sem, resV, resS, SV.ren, SV.renL, Cell.ren, St.tmF, St.hpF, idx, renO, Row.ren, evS, slot, lookR, Nat.reduceEqDiff, ↓reduceIte, reduceCtorEq, if_true, if_false, Option.getD_some, Option.getD_none, List.map_cons, List.map_nil, sLoad, readAt, readNeed, Ints_ren, Ints_length, Ints_getD, and_true, true_and, List.getD_cons_zero, List.getD_cons_succ]) <;> (try rfl)))
theorem rtree_nil (t : Int) (ps ws ds : List Int) (c d e : Option Nat) (h1 : ws.length ≤ 9223372036854775807) (h2 : ds.length ≤ 9223372036854775807) (hv : valid t ws ds = false) : FnSpec Try.prog 23 [i1 t, gi ps c, gi ws d, gi ds e] [] (V (.slice none 0 0)) [] := by
  refine fnspec_of mixed TT_ok TT_cl ⟨fun _ => false, fun _ => [], 0, fun _ => false, fun _ => false⟩ Try.func23 rfl (by kernel_rfl) rfl 168 rfl [.tmp 8] rfl ?_
  simp only [go_sem, Nat.reduceEqDiff, Nat.reduceAdd, Nat.reduceSub, Nat.reduceMul, Nat.reduceLT, Nat.reduceLeDiff, ↓reduceIte, reduceCtorEq, List.reduceReplicate, Int.cast_ofNat_Int]
  repeat' (first
    | with_reducible refine And.intro ?_ ?_
    | (unfold OKC; kernel_rfl)
    | (apply okc_up <;> (first | ((repeat (first | exact Sub.nil | apply Sub.gfp | apply Sub.same)); done) | kernel_rfl))
    | (unfold EDG; kernel_rfl)
    | (intros; (try simp only [Bool.and_eq_true, Bool.or_eq_true, Bool.not_eq_true', Bool.not_eq_false', Bool.and_eq_false_iff, Bool.or_eq_false_iff, decide_eq_true_eq, decide_eq_false_iff_not] at *); omega)
    | (refine gt_if (fun h => ?_) (fun h => ?_) <;> (first | (simp only [h, hv, go_sem, Nat.reduceEqDiff, Nat.reduceAdd, Nat.reduceSub, Nat.reduceMul, Nat.reduceLT, Nat.reduceLeDiff, ↓reduceIte, reduceCtorEq, List.reduceReplicate, Int.cast_ofNat_Int]; done) | simp only [h, hv, go_sem, Nat.reduceEqDiff, Nat.reduceAdd, Nat.reduceSub, Nat.reduceMul, Nat.reduceLT, Nat.reduceLeDiff, ↓reduceIte, reduceCtorEq, List.reduceReplicate, Int.cast_ofNat_Int] | skip))
    | (refine pt_if (fun h => ?_) (fun h => ?_) <;> (first | (simp only [h, hv, go_sem, Nat.reduceEqDiff, Nat.reduceAdd, Nat.reduceSub, Nat.reduceMul, Nat.reduceLT, Nat.reduceLeDiff, ↓reduceIte, reduceCtorEq, List.reduceReplicate, Int.cast_ofNat_Int]; done) | simp only [h, hv, go_sem, Nat.reduceEqDiff, Nat.reduceAdd, Nat.reduceSub, Nat.reduceMul, Nat.reduceLT, Nat.reduceLeDiff, ↓reduceIte, reduceCtorEq, List.reduceReplicate, Int.cast_ofNat_Int] | skip))
    | (refine cd_if (fun h => ?_) (fun h => ?_) <;> (first | (simp only [h, hv, go_sem, Nat.reduceEqDiff, Nat.reduceAdd, Nat.reduceSub, Nat.reduceMul, Nat.reduceLT, Nat.reduceLeDiff, ↓reduceIte, reduceCtorEq, List.reduceReplicate, Int.cast_ofNat_Int]; done) | simp only [h, hv, go_sem, Nat.reduceEqDiff, Nat.reduceAdd, Nat.reduceSub, Nat.reduceMul, Nat.reduceLT, Nat.reduceLeDiff, ↓reduceIte, reduceCtorEq, List.reduceReplicate, Int.cast_ofNat_Int] | skip))
    | (apply cg_tp
       case hl => rfl
       case ha => (simp only [List.map_cons, List.map_nil, prepV, prepC, idx, hpL', lookR, Nat.reduceEqDiff, if_true, if_false]; rfl)
       case hs => rfl
       case h => (first | exact rvalid_spec _ _ _ _ _ h1 h2)
       case' hk => simp only [hv, go_sem, Nat.reduceEqDiff, Nat.reduceAdd, Nat.reduceSub, Nat.reduceMul, Nat.reduceLT, Nat.reduceLeDiff, ↓reduceIte, reduceCtorEq, List.reduceReplicate, Int.cast_ofNat_Int, SV.ren, SV.renL, Cell.ren])
    | (apply cg_any
       case hl => rfl
       case ha => (intro hb; simp only [List.map_cons, List.map_nil, cnd, hb, if_true, prepV, prepC, idx, hpL', lookR, Nat.reduceEqDiff, if_false]; rfl)
       case hs => (intro hb; simp only [cnd, hb, if_true]; rfl)
       case h => (first | exact rvalid_spec _ _ _ _ _ h1 h2)
       case' hk => simp only [hv, go_sem, Nat.reduceEqDiff, Nat.reduceAdd, Nat.reduceSub, Nat.reduceMul, Nat.reduceLT, Nat.reduceLeDiff, ↓reduceIte, reduceCtorEq, List.reduceReplicate, Int.cast_ofNat_Int, SV.ren, SV.renL, Cell.ren])
    | (apply cl_plain
       case hs => rfl
       case ha => (simp only [List.map_cons, List.map_nil, prepV, prepC, idx, hpL', lookR, Nat.reduceEqDiff, if_true, if_false]; rfl)
       case h => (first | exact rvalid_spec _ _ _ _ _ h1 h2)
       case' hk => simp only [hv, go_sem, Nat.reduceEqDiff, Nat.reduceAdd, Nat.reduceSub, Nat.reduceMul, Nat.reduceLT, Nat.reduceLeDiff, ↓reduceIte, reduceCtorEq, List.reduceReplicate, Int.cast_ofNat_Int, SV.ren, SV.renL, Cell.ren, Row.ren, renO, bk, back, outUpsFrom, Ints_ren])
    | (apply cl_show
       case ha => (simp only [List.map_cons, List.map_nil, prepV, prepC, idx, hpL', lookR, Nat.reduceEqDiff, if_true, if_false]; rfl)
       case hs => ((simp [snaps, SV.refs, Cell.refs, idx, hpL', lookR]) <;> (repeat' apply And.intro) <;> exact Ints_isG _)
       case h => (first | exact rvalid_spec _ _ _ _ _ h1 h2)
       case hg => ((simp [SV.noG, SV.noGL, Cell.noG]) <;> (repeat' apply And.intro) <;> exact Ints_noG _)
       case' hk => simp only [hv, go_sem, Nat.reduceEqDiff, Nat.reduceAdd, Nat.reduceSub, Nat.reduceMul, Nat.reduceLT, Nat.reduceLeDiff, ↓reduceIte, reduceCtorEq, List.reduceReplicate, Int.cast_ofNat_Int, SV.ren, SV.renL, Cell.ren, Row.ren, renO, bk, back, outUpsFrom, Ints_ren])
    | (apply fs_nil <;> (try simp only [go_sem, resV, resS, SV.ren, SV.renL, Cell.ren, St.tmF, St.hpF, idx, renO, Row.ren, evS, slot, lookR, Nat.reduceEqDiff, ↓reduceIte, reduceCtorEq, if_true, if_false, Option.getD_some, Option.getD_none, List.map_cons, List.map_nil, sLoad, readAt, readNeed, Ints_ren, Ints_length, Ints_getD, and_true, true_and, List.getD_cons_zero, List.getD_cons_succ]) <;> (try rfl)))
end Go.Proofs.Ytcfkmkabjalgjab
