/- Contracts of functions, told of values, on the way to WorkloadExact. -/
import Derived.Test.YtdpekegikbbeoaaTyDa
import Derived.Test.YtdpekegikbbeoaaWkbDa
import Derived.Test.YtdpekegikbbeoaaWkeDa
import Derived.Test.YtdpekegikbbeoaaWkjDa
-- NEWGO
-- PRUNE: cg_tp cg_ts cg_any cg_show cl_lendx cl_show
namespace Go.Proofs.Ytdpekegikbbeoaa
set_option linter.unusedVariables false
set_option linter.unusedSimpArgs false
open Go.Proofs.Ytdpekegikbbeoaa.Sh
set_option maxRecDepth 20000
/-- one turn of runner's loop -/
def rnX (p : List (List Stp)) (l : List Int) (r : Rr) (j : Nat) : (Rr × Int) × Nat :=
  if nxV l j 3 = 0 then (punit p r, nxA l j 3) else if nxV l j 3 = 1 then (pwait p r (1 + nxV l (nxA l j 3) 3) 0, nxA l (nxA l j 3) 3) else (pnext p r, nxA l j 3)
def rnS (p : List (List Stp)) (l : List Int) (s : Rr × Nat) : Rr × Nat := (if (rnX p l s.1 s.2).1.2 = 0 then (rnX p l s.1 s.2).1.1 else s.1, (rnX p l s.1 s.2).2)
def rnL (p : List (List Stp)) (l : List Int) : Nat → Rr × Nat → Rr × Nat
  | 0, s => s
  | k + 1, s => rnL p l k (rnS p l s)
theorem rnS_ok {p : List (List Stp)} {l : List Int} {s : Rr × Nat} (h : snd p s.1 = true) : snd p (rnS p l s).1 = true := by
  unfold rnS
  split
  · rename_i he
    unfold rnX at he ⊢
    split
    · rename_i h0
      rw [if_pos h0] at he
      exact (punit_good h he).s
    · rename_i h0
      rw [if_neg h0] at he
      split
      · rename_i h1
        rw [if_pos h1] at he
        exact (pwait_good h he).s
      · rename_i h1
        rw [if_neg h1] at he
        exact (pnext_good h he).s
  · exact h
def rn0 (p : List (List Stp)) (l : List Int) (i : Nat) : Rr × Nat :=
  rnL p l (nxV l (nxA l (nxA l i 5) p.length) 7).toNat (gTo p ⟨1 + nxV l i 5, nxV l (nxA l i 5) p.length, 0, 0, 0, 0⟩ 0, nxA l (nxA l (nxA l i 5) p.length) 7)
def rnB (l : List Int) (s : Rr × Nat) : Rr × Nat :=
  if nxV l s.2 4 = 3 then
    (⟨s.1.t, s.1.p, pkV l (nxA l s.2 4) [s.1.a, 0, 9, -1], pkV l (nxA l (nxA l s.2 4) 4) [s.1.l, 0, 1, 6], nxV l (nxA l (nxA l (nxA l (nxA l s.2 4) 4) 4) 4) 6, pkV l (nxA l (nxA l (nxA l s.2 4) 4) 4) [s.1.u, 0, 3, -1]⟩, nxA l (nxA l (nxA l (nxA l (nxA l s.2 4) 4) 4) 4) 6)
  else (s.1, nxA l s.2 4)
set_option maxHeartbeats 8000000 in
theorem runner_spec (p : List (List Stp)) (l : List Int) (i : Nat) (hl6 : l.length ≤ 600) (hl : ∀ x ∈ l, -9223372036854775808 ≤ x ∧ x ≤ 9223372036854775807) (hv : vOk p = true) (h1 : 1 ≤ p.length) :
    FnSpec Try.prog 15 [dp, gp p none] [dice l i] (rrt (rnB l (rn0 p l i)).1) [some (dice l (rnB l (rn0 p l i)).2)] := by
  have hv' := vOk_iff hv
  have hp : p.length ≤ 9223372036854775807 := by omega
  have ht := nxV_rng l i 5 (by omega)
  have n5 := next_spec l i 5 hl6 hl (by omega)
  have hq := nxV_rng l (nxA l i 5) p.length (by omega)
  have nq := next_spec l (nxA l i 5) p.length hl6 hl (by omega)
  have h7 := nxV_rng l (nxA l (nxA l i 5) p.length) 7 (by omega)
  have n7 := next_spec l (nxA l (nxA l i 5) p.length) 7 hl6 hl (by omega)
  have hT : rn0 p l i = rnL p l (nxV l (nxA l (nxA l i 5) p.length) 7).toNat (gTo p ⟨1 + nxV l i 5, nxV l (nxA l i 5) p.length, 0, 0, 0, 0⟩ 0, nxA l (nxA l (nxA l i 5) p.length) 7) := rfl
  generalize rn0 p l i = T at *
  generalize nxV l i 5 = t at *
  generalize nxA l i 5 = j1 at *
  generalize nxV l j1 p.length = k at *
  generalize nxA l j1 p.length = j2 at *
  obtain ⟨K, hK⟩ : ∃ K : Nat, nxV l j2 7 = K := ⟨(nxV l j2 7).toNat, by omega⟩
  rw [hK] at n7 h7 hT
  rw [Int.toNat_natCast] at hT
  generalize nxA l j2 7 = j3 at *
  have hs := rstart_spec p none (1 + t) k hp
  have e1 : pstart p (1 + t) k = (gTo p ⟨1 + t, k, 0, 0, 0, 0⟩ 0, 0) := by
    unfold pstart
    rw [if_neg (by simp [hv]), if_neg (by rw [wi_iff.2 (show 0 ≤ k ∧ k ≤ p.length - 1 by omega)]; simp), if_neg (by rw [wi_iff.2 (show 1 ≤ 1 + t ∧ 1 + t ≤ 2147483647 by omega)]; simp)]
  rw [e1] at hs
  have hg := (snd_gTo (p := p) (r := ⟨1 + t, k, 0, 0, 0, 0⟩) (a := 0) hv (by show 1 ≤ 1 + t ∧ 1 + t ≤ 2147483647; omega) hq (by omega)).1
  generalize gTo p ⟨1 + t, k, 0, 0, 0, 0⟩ 0 = r0 at *
  have wr0 : ∀ r, rrt r = .agg [int r.t, int r.p, int r.a, int r.l, int r.s, int r.u] := fun r => rfl
  simp only [rre, wr0] at hs
  refine fnspec_of mixed TT_ok TT_cl ⟨fun _ => false, lends, 1, fun _ => false, fun _ => false⟩ Try.func15 rfl (by kernel_rfl) rfl 82 rfl [.cell 4 34] rfl ?_
  simp only [go_sem, Nat.reduceEqDiff, Nat.reduceAdd, Nat.reduceSub, Nat.reduceMul, Nat.reduceLT, Nat.reduceLeDiff, ↓reduceIte, reduceCtorEq, List.reduceReplicate, Int.cast_ofNat_Int, Int.reduceEq, Int.reduceLT, Int.reduceLE, lends]
  repeat' (first
    | with_reducible refine And.intro ?_ ?_
    | (unfold OKC; kernel_rfl)
    | (apply okc_up <;> (first | ((repeat (first | exact Sub.nil | apply Sub.gfp | apply Sub.same)); done) | kernel_rfl))
    | (unfold EDG; kernel_rfl)
    | (intros; (try simp only [Bool.and_eq_true, Bool.or_eq_true, Bool.not_eq_true', Bool.not_eq_false', Bool.and_eq_false_iff, Bool.or_eq_false_iff, decide_eq_true_eq, decide_eq_false_iff_not] at *); omega)
    | (refine gt_if (fun h => ?_) (fun h => ?_) <;> (try simp only [h]))
    | (refine pt_if (fun h => ?_) (fun h => ?_) <;> (try simp only [h]))
    | (refine cd_if (fun h => ?_) (fun h => ?_) <;> (try simp only [h]))
    | (apply cl_plain
       case hs => rfl
       case ha => (simp only [List.map_cons, List.map_nil, prepV, prepC, idx, hpL', lookR, Nat.reduceEqDiff, if_true, if_false]; rfl)
       case h => (first | exact n5 .. | exact nq .. | exact n7 .. | exact hs ..))
    | (apply cl_lend
       case hr => (simp only [List.map_cons, List.map_nil, hpL', lookR, Nat.reduceEqDiff, if_true, if_false]; first | exact map1 _ | exact map2 _ _ | exact map3 _ _ _)
       case ha => (simp only [List.map_cons, List.map_nil, prepV, prepC, idx, hpL', lookR, Nat.reduceEqDiff, if_true, if_false]; rfl)
       case hs => rfl
       case hn => decide
       case h => (first | exact n5 .. | exact nq .. | exact n7 .. | exact hs ..)
       case hf => (simp only [List.forall_mem_cons, List.not_mem_nil, false_implies, implies_true, and_true, true_and, flat_cons, flat_nil, flat_ints, flat_bools, flat_app, Cell.refs, and_self, eq_self_iff_true, List.append_nil])
       case hl => (simp only [List.length_cons, List.length_nil]; decide))
    | (apply cl_use
       case hr => (simp only [List.map_cons, List.map_nil, hpL', lookR, Nat.reduceEqDiff, if_true, if_false]; first | exact map0 | exact map1 _ | exact map2 _ _ | exact map3 _ _ _)
       case ha => (simp only [List.map_cons, List.map_nil, prepV, prepC, idx, hpL', lookR, Nat.reduceEqDiff, if_true, if_false]; rfl)
       case hs => (simp only [snaps, SV.refs, Cell.refs, idx, List.flatMap_cons, List.flatMap_nil, List.nil_append, List.cons_append, List.append_nil, List.filter_cons, List.filter_nil, Nat.reduceEqDiff, if_true, if_false, Option.isNone_none, Option.isNone_some, Bool.false_eq_true, reduceCtorEq, ↓reduceIte]; rfl)
       case hn => decide
       case h => (first | exact n5 .. | exact nq .. | exact n7 .. | exact hs ..)
       case hf => (simp only [List.forall_mem_cons, List.not_mem_nil, false_implies, implies_true, and_true, true_and, flat_cons, flat_nil, flat_ints, flat_bools, flat_app, Cell.refs, and_self, eq_self_iff_true, List.append_nil])
       case hg => ((simp [hpL', lookR, Cell.isG]) <;> (repeat' apply And.intro) <;> exact Ints_isG _)
       case hl => (simp only [List.length_cons, List.length_nil]; decide))
    | ((first | refine s1_id ?_ | refine swp_id ?_ | refine sops_id ?_ | refine s2_id ?_); simp only [lends, go_sem, Nat.reduceEqDiff, Nat.reduceAdd, Nat.reduceSub, Nat.reduceMul, Nat.reduceLT, Nat.reduceLeDiff, ↓reduceIte, reduceCtorEq, List.reduceReplicate, Int.cast_ofNat_Int, Int.reduceEq, Int.reduceLT, Int.reduceLE, SV.ren, SV.renL, Cell.ren, Row.ren, renO, bk, back, outUpsFrom, Ints_ren]))
  clear n5 nq n7 hs ht hq e1
  refine w_loop (ι := Nat × Rr × Nat) (fun s => ⟨[(0, dp), (1, gp p none), (4, .one (.optr 1 0)), (5, .one (.optr 2 0)), (7, i1 s.1)], [(0, some (dice l s.2.2)), (1, some ⟨[int 0, int 0, int 0, int 0, int 0, int 0], 6⟩), (2, some ⟨[int s.2.1.t, int s.2.1.p, int s.2.1.a, int s.2.1.l, int s.2.1.s, int s.2.1.u], 6⟩)], 3⟩) (fun s => s.1 ≤ 6 ∧ snd p s.2.1 = true ∧ rnL p l s.1 s.2 = T) (fun s => s.1) (K, r0, j3) ?_ ⟨by show K ≤ 6; omega, hg, hT.symm⟩ ?_
  · (refine imp_ren _ _ _ [(0, 0, dice l j3), (1, 1, ⟨[int 0, int 0, int 0, int 0, int 0, int 0], 6⟩), (2, 14, ⟨[int r0.t, int r0.p, int r0.a, int r0.l, int r0.s, int r0.u], 6⟩)] (by simp) (by simp) (by simp) (Nat.le_of_ble_eq_true rfl) ?_ rfl (by simp only [List.forall_mem_cons, List.not_mem_nil, false_implies, implies_true, and_true, St.hpF, lookR, Nat.reduceEqDiff, if_true, if_false, ↓reduceIte, dice] <;> (repeat' apply And.intro) <;> (first | rfl | trivial)) (by simp only [List.forall_mem_cons, List.not_mem_nil, false_implies, implies_true, and_true, true_and, flat_cons, flat_nil, flat_ints, flat_bools, flat_app, Cell.refs, and_self, eq_self_iff_true, List.append_nil, dice]); simp only [List.map_cons, List.map_nil, List.forall_mem_cons, List.not_mem_nil, false_implies, implies_true, and_true, lk, slot, SV.ren, Cell.ren, toN, Nat.reduceEqDiff, if_true, if_false, ↓reduceIte, reduceCtorEq])
    all_goals ((repeat' apply And.intro) <;> (first | rfl | trivial))
  clear hg hT h7
  rintro ⟨m, r, j⟩ ⟨hm, hs, hL⟩
  simp only at hm hs hL ⊢
  rcases Nat.eq_zero_or_pos m with h0 | h0
  · subst h0
    have hlt : ¬ (0 : Int) < ((0 : Nat) : Int) := by omega
    have hT : T = (r, j) := hL.symm
    subst hT
    have b4 := bool_spec l j 4 hl6 hl (by omega)
    by_cases hb : nxV l j 4 = 4 - 1
    · have hB : rnB l (r, j) = (⟨r.t, r.p, pkV l (nxA l j 4) [r.a, 0, 9, -1], pkV l (nxA l (nxA l j 4) 4) [r.l, 0, 1, 6], nxV l (nxA l (nxA l (nxA l (nxA l j 4) 4) 4) 4) 6, pkV l (nxA l (nxA l (nxA l j 4) 4) 4) [r.u, 0, 3, -1]⟩, nxA l (nxA l (nxA l (nxA l (nxA l j 4) 4) 4) 4) 6) := by
        unfold rnB; rw [if_pos (by simpa using hb)]
      rw [hB]
      have p1 := pick_spec l (nxA l j 4) [r.a, 0, 9, -1] (some 4) (by simp) (by simp) hl6 hl
      have p2 := pick_spec l (nxA l (nxA l j 4) 4) [r.l, 0, 1, 6] (some 4) (by simp) (by simp) hl6 hl
      have p3 := pick_spec l (nxA l (nxA l (nxA l j 4) 4) 4) [r.u, 0, 3, -1] (some 4) (by simp) (by simp) hl6 hl
      have n6 := next_spec l (nxA l (nxA l (nxA l (nxA l j 4) 4) 4) 4) 6 hl6 hl (by omega)
      simp only [go_sem, Nat.reduceEqDiff, Nat.reduceAdd, Nat.reduceSub, Nat.reduceMul, Nat.reduceLT, Nat.reduceLeDiff, ↓reduceIte, reduceCtorEq, List.reduceReplicate, Int.cast_ofNat_Int, Int.reduceEq, Int.reduceLT, Int.reduceLE, decide_eq_false hlt, lends]
      repeat' (first
    | with_reducible refine And.intro ?_ ?_
    | (unfold OKC; kernel_rfl)
    | (apply okc_up <;> (first | ((repeat (first | exact Sub.nil | apply Sub.gfp | apply Sub.same)); done) | kernel_rfl))
    | (unfold EDG; kernel_rfl)
    | (intros; (try simp only [Bool.and_eq_true, Bool.or_eq_true, Bool.not_eq_true', Bool.not_eq_false', Bool.and_eq_false_iff, Bool.or_eq_false_iff, decide_eq_true_eq, decide_eq_false_iff_not] at *); omega)
    | (refine gt_if (fun h => ?_) (fun h => ?_) <;> (try simp only [h]))
    | (refine pt_if (fun h => ?_) (fun h => ?_) <;> (try simp only [h]))
    | (refine cd_if (fun h => ?_) (fun h => ?_) <;> (try simp only [h]))
    | (apply cl_plain
       case hs => rfl
       case ha => (simp only [List.map_cons, List.map_nil, prepV, prepC, idx, hpL', lookR, Nat.reduceEqDiff, if_true, if_false]; rfl)
       case h => (first | exact b4 .. | exact p1 .. | exact p2 .. | exact p3 .. | exact n6 ..))
    | (apply cl_lend
       case hr => (simp only [List.map_cons, List.map_nil, hpL', lookR, Nat.reduceEqDiff, if_true, if_false]; first | exact map1 _ | exact map2 _ _ | exact map3 _ _ _)
       case ha => (simp only [List.map_cons, List.map_nil, prepV, prepC, idx, hpL', lookR, Nat.reduceEqDiff, if_true, if_false]; rfl)
       case hs => rfl
       case hn => decide
       case h => (first | exact b4 .. | exact p1 .. | exact p2 .. | exact p3 .. | exact n6 ..)
       case hf => (simp only [List.forall_mem_cons, List.not_mem_nil, false_implies, implies_true, and_true, true_and, flat_cons, flat_nil, flat_ints, flat_bools, flat_app, Cell.refs, and_self, eq_self_iff_true, List.append_nil])
       case hl => (simp only [List.length_cons, List.length_nil]; decide))
    | (apply cl_use
       case hr => (simp only [List.map_cons, List.map_nil, hpL', lookR, Nat.reduceEqDiff, if_true, if_false]; first | exact map0 | exact map1 _ | exact map2 _ _ | exact map3 _ _ _)
       case ha => (simp only [List.map_cons, List.map_nil, prepV, prepC, idx, hpL', lookR, Nat.reduceEqDiff, if_true, if_false]; rfl)
       case hs => (simp only [snaps, SV.refs, Cell.refs, idx, List.flatMap_cons, List.flatMap_nil, List.nil_append, List.cons_append, List.append_nil, List.filter_cons, List.filter_nil, Nat.reduceEqDiff, if_true, if_false, Option.isNone_none, Option.isNone_some, Bool.false_eq_true, reduceCtorEq, ↓reduceIte]; rfl)
       case hn => decide
       case h => (first | exact b4 .. | exact p1 .. | exact p2 .. | exact p3 .. | exact n6 ..)
       case hf => (simp only [List.forall_mem_cons, List.not_mem_nil, false_implies, implies_true, and_true, true_and, flat_cons, flat_nil, flat_ints, flat_bools, flat_app, Cell.refs, and_self, eq_self_iff_true, List.append_nil])
       case hg => ((simp [hpL', lookR, Cell.isG]) <;> (repeat' apply And.intro) <;> exact Ints_isG _)
       case hl => (simp only [List.length_cons, List.length_nil]; decide))
    | ((first | refine s1_id ?_ | refine swp_id ?_ | refine sops_id ?_ | refine s2_id ?_); simp only [decide_eq_false hlt, lends, decide_eq_true hb, go_sem, Nat.reduceEqDiff, Nat.reduceAdd, Nat.reduceSub, Nat.reduceMul, Nat.reduceLT, Nat.reduceLeDiff, ↓reduceIte, reduceCtorEq, List.reduceReplicate, Int.cast_ofNat_Int, Int.reduceEq, Int.reduceLT, Int.reduceLE, SV.ren, SV.renL, Cell.ren, Row.ren, renO, bk, back, outUpsFrom, Ints_ren]))
      (refine fs_flat [(0, dice l (nxA l (nxA l (nxA l (nxA l (nxA l j 4) 4) 4) 4) 6))] (by simp) (by simp only [List.map_cons, List.map_nil]; decide) (by simp only [go_sem, resV, resS, SV.ren, SV.renL, Cell.ren, St.tmF, St.hpF, idx, renO, Row.ren, evS, slot, lookR, Nat.reduceEqDiff, ↓reduceIte, reduceCtorEq, if_true, if_false, Option.getD_some, Option.getD_none, List.map_cons, List.map_nil, sLoad, readAt, readNeed, Ints_ren, Ints_length, Ints_getD, and_true, true_and, List.getD_cons_zero, List.getD_cons_succ]; try decide) ?_ (by simp only [List.forall_mem_cons, List.not_mem_nil, false_implies, implies_true, and_true, St.hpF, lookR, Nat.reduceEqDiff, if_true, if_false, ↓reduceIte] <;> (repeat' apply And.intro) <;> (first | rfl | trivial)) (by simp only [List.forall_mem_cons, List.not_mem_nil, false_implies, implies_true, and_true, true_and, flat_cons, flat_nil, flat_ints, flat_bools, flat_app, Cell.refs, and_self, eq_self_iff_true, List.append_nil]) ?_ <;> (try simp only [go_sem, resV, resS, SV.ren, SV.renL, Cell.ren, St.tmF, St.hpF, idx, renO, Row.ren, evS, slot, lookR, Nat.reduceEqDiff, ↓reduceIte, reduceCtorEq, if_true, if_false, Option.getD_some, Option.getD_none, List.map_cons, List.map_nil, sLoad, readAt, readNeed, Ints_ren, Ints_length, Ints_getD, and_true, true_and, List.getD_cons_zero, List.getD_cons_succ]) <;> (try rfl))
    · have hB : rnB l (r, j) = (r, nxA l j 4) := by unfold rnB; rw [if_neg (fun h' => hb (by simpa using h'))]
      rw [hB]
      simp only [go_sem, Nat.reduceEqDiff, Nat.reduceAdd, Nat.reduceSub, Nat.reduceMul, Nat.reduceLT, Nat.reduceLeDiff, ↓reduceIte, reduceCtorEq, List.reduceReplicate, Int.cast_ofNat_Int, Int.reduceEq, Int.reduceLT, Int.reduceLE, decide_eq_false hlt, lends]
      repeat' (first
    | with_reducible refine And.intro ?_ ?_
    | (unfold OKC; kernel_rfl)
    | (apply okc_up <;> (first | ((repeat (first | exact Sub.nil | apply Sub.gfp | apply Sub.same)); done) | kernel_rfl))
    | (unfold EDG; kernel_rfl)
    | (intros; (try simp only [Bool.and_eq_true, Bool.or_eq_true, Bool.not_eq_true', Bool.not_eq_false', Bool.and_eq_false_iff, Bool.or_eq_false_iff, decide_eq_true_eq, decide_eq_false_iff_not] at *); omega)
    | (refine gt_if (fun h => ?_) (fun h => ?_) <;> (try simp only [h]))
    | (refine pt_if (fun h => ?_) (fun h => ?_) <;> (try simp only [h]))
    | (refine cd_if (fun h => ?_) (fun h => ?_) <;> (try simp only [h]))
    | (apply cl_plain
       case hs => rfl
       case ha => (simp only [List.map_cons, List.map_nil, prepV, prepC, idx, hpL', lookR, Nat.reduceEqDiff, if_true, if_false]; rfl)
       case h => (first | exact b4 ..))
    | (apply cl_lend
       case hr => (simp only [List.map_cons, List.map_nil, hpL', lookR, Nat.reduceEqDiff, if_true, if_false]; first | exact map1 _ | exact map2 _ _ | exact map3 _ _ _)
       case ha => (simp only [List.map_cons, List.map_nil, prepV, prepC, idx, hpL', lookR, Nat.reduceEqDiff, if_true, if_false]; rfl)
       case hs => rfl
       case hn => decide
       case h => (first | exact b4 ..)
       case hf => (simp only [List.forall_mem_cons, List.not_mem_nil, false_implies, implies_true, and_true, true_and, flat_cons, flat_nil, flat_ints, flat_bools, flat_app, Cell.refs, and_self, eq_self_iff_true, List.append_nil])
       case hl => (simp only [List.length_cons, List.length_nil]; decide))
    | (apply cl_use
       case hr => (simp only [List.map_cons, List.map_nil, hpL', lookR, Nat.reduceEqDiff, if_true, if_false]; first | exact map0 | exact map1 _ | exact map2 _ _ | exact map3 _ _ _)
       case ha => (simp only [List.map_cons, List.map_nil, prepV, prepC, idx, hpL', lookR, Nat.reduceEqDiff, if_true, if_false]; rfl)
       case hs => (simp only [snaps, SV.refs, Cell.refs, idx, List.flatMap_cons, List.flatMap_nil, List.nil_append, List.cons_append, List.append_nil, List.filter_cons, List.filter_nil, Nat.reduceEqDiff, if_true, if_false, Option.isNone_none, Option.isNone_some, Bool.false_eq_true, reduceCtorEq, ↓reduceIte]; rfl)
       case hn => decide
       case h => (first | exact b4 ..)
       case hf => (simp only [List.forall_mem_cons, List.not_mem_nil, false_implies, implies_true, and_true, true_and, flat_cons, flat_nil, flat_ints, flat_bools, flat_app, Cell.refs, and_self, eq_self_iff_true, List.append_nil])
       case hg => ((simp [hpL', lookR, Cell.isG]) <;> (repeat' apply And.intro) <;> exact Ints_isG _)
       case hl => (simp only [List.length_cons, List.length_nil]; decide))
    | ((first | refine s1_id ?_ | refine swp_id ?_ | refine sops_id ?_ | refine s2_id ?_); simp only [decide_eq_false hlt, lends, decide_eq_false hb, go_sem, Nat.reduceEqDiff, Nat.reduceAdd, Nat.reduceSub, Nat.reduceMul, Nat.reduceLT, Nat.reduceLeDiff, ↓reduceIte, reduceCtorEq, List.reduceReplicate, Int.cast_ofNat_Int, Int.reduceEq, Int.reduceLT, Int.reduceLE, SV.ren, SV.renL, Cell.ren, Row.ren, renO, bk, back, outUpsFrom, Ints_ren]))
      (refine fs_flat [(0, dice l (nxA l j 4))] (by simp) (by simp only [List.map_cons, List.map_nil]; decide) (by simp only [go_sem, resV, resS, SV.ren, SV.renL, Cell.ren, St.tmF, St.hpF, idx, renO, Row.ren, evS, slot, lookR, Nat.reduceEqDiff, ↓reduceIte, reduceCtorEq, if_true, if_false, Option.getD_some, Option.getD_none, List.map_cons, List.map_nil, sLoad, readAt, readNeed, Ints_ren, Ints_length, Ints_getD, and_true, true_and, List.getD_cons_zero, List.getD_cons_succ]; try decide) ?_ (by simp only [List.forall_mem_cons, List.not_mem_nil, false_implies, implies_true, and_true, St.hpF, lookR, Nat.reduceEqDiff, if_true, if_false, ↓reduceIte] <;> (repeat' apply And.intro) <;> (first | rfl | trivial)) (by simp only [List.forall_mem_cons, List.not_mem_nil, false_implies, implies_true, and_true, true_and, flat_cons, flat_nil, flat_ints, flat_bools, flat_app, Cell.refs, and_self, eq_self_iff_true, List.append_nil]) ?_ <;> (try simp only [go_sem, resV, resS, SV.ren, SV.renL, Cell.ren, St.tmF, St.hpF, idx, renO, Row.ren, evS, slot, lookR, Nat.reduceEqDiff, ↓reduceIte, reduceCtorEq, if_true, if_false, Option.getD_some, Option.getD_none, List.map_cons, List.map_nil, sLoad, readAt, readNeed, Ints_ren, Ints_length, Ints_getD, and_true, true_and, List.getD_cons_zero, List.getD_cons_succ]) <;> (try rfl))
  obtain ⟨m, rfl⟩ : ∃ m', m = m' + 1 := ⟨m - 1, by omega⟩
  have hlt : (0 : Int) < ((m + 1 : Nat) : Int) := by omega
  have hmm : ((m + 1 : Nat) : Int) - 1 = (m : Int) := by omega
  have h3 := nxV_rng l j 3 (by omega)
  have n3 := next_spec l j 3 hl6 hl (by omega)
  have c0 := rnext_spec p none r hp
  have c1 := runit_spec p none r hp
  have c2 := fun a b => rwait_spec p none r a b hp
  simp only [rre, wr0] at c0 c1 c2
  have hok := rnS_ok (p := p) (l := l) (s := (r, j)) hs
  replace hL : rnL p l m (rnS p l (r, j)) = T := hL
  have hXX : rnX p l r j = if nxV l j 3 = 0 then (punit p r, nxA l j 3) else if nxV l j 3 = 1 then (pwait p r (1 + nxV l (nxA l j 3) 3) 0, nxA l (nxA l j 3) 3) else (pnext p r, nxA l j 3) := rfl
  have hv3 : nxV l j 3 = 0 ∨ nxV l j 3 = 1 ∨ nxV l j 3 = 2 := by omega
  rcases hv3 with hv | hv | hv
  · have hX : rnX p l r j = (punit p r, nxA l j 3) := by rw [hXX, if_pos hv]
    clear hXX c2
    generalize pnext p r = y0 at *
    obtain ⟨y0, e0⟩ := y0
    generalize punit p r = y at *
    obtain ⟨y, e⟩ := y
    by_cases he : e = 0
    · have hS : rnS p l (r, j) = (y, nxA l j 3) := by unfold rnS; simp only [hX, he, if_true]
      rw [hS] at hL hok
      simp only [go_sem, Nat.reduceEqDiff, Nat.reduceAdd, Nat.reduceSub, Nat.reduceMul, Nat.reduceLT, Nat.reduceLeDiff, ↓reduceIte, reduceCtorEq, List.reduceReplicate, Int.cast_ofNat_Int, Int.reduceEq, Int.reduceLT, Int.reduceLE, decide_eq_true hlt, lends]
      repeat' (first
    | with_reducible refine And.intro ?_ ?_
    | (unfold OKC; kernel_rfl)
    | (apply okc_up <;> (first | ((repeat (first | exact Sub.nil | apply Sub.gfp | apply Sub.same)); done) | kernel_rfl))
    | (unfold EDG; kernel_rfl)
    | (intros; (try simp only [Bool.and_eq_true, Bool.or_eq_true, Bool.not_eq_true', Bool.not_eq_false', Bool.and_eq_false_iff, Bool.or_eq_false_iff, decide_eq_true_eq, decide_eq_false_iff_not] at *); omega)
    | (refine gt_if (fun h => ?_) (fun h => ?_) <;> (try simp only [h]))
    | (refine pt_if (fun h => ?_) (fun h => ?_) <;> (try simp only [h]))
    | (refine cd_if (fun h => ?_) (fun h => ?_) <;> (try simp only [h]))
    | (apply cl_plain
       case hs => rfl
       case ha => (simp only [List.map_cons, List.map_nil, prepV, prepC, idx, hpL', lookR, Nat.reduceEqDiff, if_true, if_false]; rfl)
       case h => (first | exact n3 .. | exact c0 .. | exact c1 ..))
    | (apply cl_lend
       case hr => (simp only [List.map_cons, List.map_nil, hpL', lookR, Nat.reduceEqDiff, if_true, if_false]; first | exact map1 _ | exact map2 _ _ | exact map3 _ _ _)
       case ha => (simp only [List.map_cons, List.map_nil, prepV, prepC, idx, hpL', lookR, Nat.reduceEqDiff, if_true, if_false]; rfl)
       case hs => rfl
       case hn => decide
       case h => (first | exact n3 .. | exact c0 .. | exact c1 ..)
       case hf => (simp only [List.forall_mem_cons, List.not_mem_nil, false_implies, implies_true, and_true, true_and, flat_cons, flat_nil, flat_ints, flat_bools, flat_app, Cell.refs, and_self, eq_self_iff_true, List.append_nil])
       case hl => (simp only [List.length_cons, List.length_nil]; decide))
    | (apply cl_use
       case hr => (simp only [List.map_cons, List.map_nil, hpL', lookR, Nat.reduceEqDiff, if_true, if_false]; first | exact map0 | exact map1 _ | exact map2 _ _ | exact map3 _ _ _)
       case ha => (simp only [List.map_cons, List.map_nil, prepV, prepC, idx, hpL', lookR, Nat.reduceEqDiff, if_true, if_false]; rfl)
       case hs => (simp only [snaps, SV.refs, Cell.refs, idx, List.flatMap_cons, List.flatMap_nil, List.nil_append, List.cons_append, List.append_nil, List.filter_cons, List.filter_nil, Nat.reduceEqDiff, if_true, if_false, Option.isNone_none, Option.isNone_some, Bool.false_eq_true, reduceCtorEq, ↓reduceIte]; rfl)
       case hn => decide
       case h => (first | exact n3 .. | exact c0 .. | exact c1 ..)
       case hf => (simp only [List.forall_mem_cons, List.not_mem_nil, false_implies, implies_true, and_true, true_and, flat_cons, flat_nil, flat_ints, flat_bools, flat_app, Cell.refs, and_self, eq_self_iff_true, List.append_nil])
       case hg => ((simp [hpL', lookR, Cell.isG]) <;> (repeat' apply And.intro) <;> exact Ints_isG _)
       case hl => (simp only [List.length_cons, List.length_nil]; decide))
    | ((first | refine s1_id ?_ | refine swp_id ?_ | refine sops_id ?_ | refine s2_id ?_); simp only [decide_eq_true hlt, lends, decide_eq_true hv, decide_eq_true he, decide_true, go_sem, Nat.reduceEqDiff, Nat.reduceAdd, Nat.reduceSub, Nat.reduceMul, Nat.reduceLT, Nat.reduceLeDiff, ↓reduceIte, reduceCtorEq, List.reduceReplicate, Int.cast_ofNat_Int, Int.reduceEq, Int.reduceLT, Int.reduceLE, SV.ren, SV.renL, Cell.ren, Row.ren, renO, bk, back, outUpsFrom, Ints_ren]))
      refine le_mk (m, y, nxA l j 3) ?_ ⟨by show m ≤ 6; omega, hok, hL⟩ (by show m < m + 1; omega)
      (refine imp_ren _ _ _ [(0, 0, dice l (nxA l j 3)), (1, 1, ⟨[int 0, int 0, int 0, int 0, int 0, int 0], 6⟩), (2, 2, ⟨[int y.t, int y.p, int y.a, int y.l, int y.s, int y.u], 6⟩)] (by simp) (by simp) (by simp) (Nat.le_of_ble_eq_true rfl) ?_ rfl (by simp only [List.forall_mem_cons, List.not_mem_nil, false_implies, implies_true, and_true, St.hpF, lookR, Nat.reduceEqDiff, if_true, if_false, ↓reduceIte, dice] <;> (repeat' apply And.intro) <;> (first | rfl | trivial)) (by simp only [List.forall_mem_cons, List.not_mem_nil, false_implies, implies_true, and_true, true_and, flat_cons, flat_nil, flat_ints, flat_bools, flat_app, Cell.refs, and_self, eq_self_iff_true, List.append_nil, dice]); simp only [List.map_cons, List.map_nil, List.forall_mem_cons, List.not_mem_nil, false_implies, implies_true, and_true, lk, slot, SV.ren, Cell.ren, toN, Nat.reduceEqDiff, if_true, if_false, ↓reduceIte, reduceCtorEq])
      all_goals ((repeat' apply And.intro) <;> (first | rfl | trivial | (simp only [hmm]; done) | (simp only [hmm]; rfl) | (simp only [hmm]; trivial)))
    · have hS : rnS p l (r, j) = (r, nxA l j 3) := by unfold rnS; simp only [hX, he, if_false]
      rw [hS] at hL hok
      simp only [go_sem, Nat.reduceEqDiff, Nat.reduceAdd, Nat.reduceSub, Nat.reduceMul, Nat.reduceLT, Nat.reduceLeDiff, ↓reduceIte, reduceCtorEq, List.reduceReplicate, Int.cast_ofNat_Int, Int.reduceEq, Int.reduceLT, Int.reduceLE, decide_eq_true hlt, lends]
      repeat' (first
    | with_reducible refine And.intro ?_ ?_
    | (unfold OKC; kernel_rfl)
    | (apply okc_up <;> (first | ((repeat (first | exact Sub.nil | apply Sub.gfp | apply Sub.same)); done) | kernel_rfl))
    | (unfold EDG; kernel_rfl)
    | (intros; (try simp only [Bool.and_eq_true, Bool.or_eq_true, Bool.not_eq_true', Bool.not_eq_false', Bool.and_eq_false_iff, Bool.or_eq_false_iff, decide_eq_true_eq, decide_eq_false_iff_not] at *); omega)
    | (refine gt_if (fun h => ?_) (fun h => ?_) <;> (try simp only [h]))
    | (refine pt_if (fun h => ?_) (fun h => ?_) <;> (try simp only [h]))
    | (refine cd_if (fun h => ?_) (fun h => ?_) <;> (try simp only [h]))
    | (apply cl_plain
       case hs => rfl
       case ha => (simp only [List.map_cons, List.map_nil, prepV, prepC, idx, hpL', lookR, Nat.reduceEqDiff, if_true, if_false]; rfl)
       case h => (first | exact n3 .. | exact c0 .. | exact c1 ..))
    | (apply cl_lend
       case hr => (simp only [List.map_cons, List.map_nil, hpL', lookR, Nat.reduceEqDiff, if_true, if_false]; first | exact map1 _ | exact map2 _ _ | exact map3 _ _ _)
       case ha => (simp only [List.map_cons, List.map_nil, prepV, prepC, idx, hpL', lookR, Nat.reduceEqDiff, if_true, if_false]; rfl)
       case hs => rfl
       case hn => decide
       case h => (first | exact n3 .. | exact c0 .. | exact c1 ..)
       case hf => (simp only [List.forall_mem_cons, List.not_mem_nil, false_implies, implies_true, and_true, true_and, flat_cons, flat_nil, flat_ints, flat_bools, flat_app, Cell.refs, and_self, eq_self_iff_true, List.append_nil])
       case hl => (simp only [List.length_cons, List.length_nil]; decide))
    | (apply cl_use
       case hr => (simp only [List.map_cons, List.map_nil, hpL', lookR, Nat.reduceEqDiff, if_true, if_false]; first | exact map0 | exact map1 _ | exact map2 _ _ | exact map3 _ _ _)
       case ha => (simp only [List.map_cons, List.map_nil, prepV, prepC, idx, hpL', lookR, Nat.reduceEqDiff, if_true, if_false]; rfl)
       case hs => (simp only [snaps, SV.refs, Cell.refs, idx, List.flatMap_cons, List.flatMap_nil, List.nil_append, List.cons_append, List.append_nil, List.filter_cons, List.filter_nil, Nat.reduceEqDiff, if_true, if_false, Option.isNone_none, Option.isNone_some, Bool.false_eq_true, reduceCtorEq, ↓reduceIte]; rfl)
       case hn => decide
       case h => (first | exact n3 .. | exact c0 .. | exact c1 ..)
       case hf => (simp only [List.forall_mem_cons, List.not_mem_nil, false_implies, implies_true, and_true, true_and, flat_cons, flat_nil, flat_ints, flat_bools, flat_app, Cell.refs, and_self, eq_self_iff_true, List.append_nil])
       case hg => ((simp [hpL', lookR, Cell.isG]) <;> (repeat' apply And.intro) <;> exact Ints_isG _)
       case hl => (simp only [List.length_cons, List.length_nil]; decide))
    | ((first | refine s1_id ?_ | refine swp_id ?_ | refine sops_id ?_ | refine s2_id ?_); simp only [decide_eq_true hlt, lends, decide_eq_true hv, decide_eq_false he, decide_true, go_sem, Nat.reduceEqDiff, Nat.reduceAdd, Nat.reduceSub, Nat.reduceMul, Nat.reduceLT, Nat.reduceLeDiff, ↓reduceIte, reduceCtorEq, List.reduceReplicate, Int.cast_ofNat_Int, Int.reduceEq, Int.reduceLT, Int.reduceLE, SV.ren, SV.renL, Cell.ren, Row.ren, renO, bk, back, outUpsFrom, Ints_ren]))
      refine le_mk (m, r, nxA l j 3) ?_ ⟨by show m ≤ 6; omega, hok, hL⟩ (by show m < m + 1; omega)
      (refine imp_ren _ _ _ [(0, 0, dice l (nxA l j 3)), (1, 1, ⟨[int 0, int 0, int 0, int 0, int 0, int 0], 6⟩), (2, 2, ⟨[int r.t, int r.p, int r.a, int r.l, int r.s, int r.u], 6⟩)] (by simp) (by simp) (by simp) (Nat.le_of_ble_eq_true rfl) ?_ rfl (by simp only [List.forall_mem_cons, List.not_mem_nil, false_implies, implies_true, and_true, St.hpF, lookR, Nat.reduceEqDiff, if_true, if_false, ↓reduceIte, dice] <;> (repeat' apply And.intro) <;> (first | rfl | trivial)) (by simp only [List.forall_mem_cons, List.not_mem_nil, false_implies, implies_true, and_true, true_and, flat_cons, flat_nil, flat_ints, flat_bools, flat_app, Cell.refs, and_self, eq_self_iff_true, List.append_nil, dice]); simp only [List.map_cons, List.map_nil, List.forall_mem_cons, List.not_mem_nil, false_implies, implies_true, and_true, lk, slot, SV.ren, Cell.ren, toN, Nat.reduceEqDiff, if_true, if_false, ↓reduceIte, reduceCtorEq])
      all_goals ((repeat' apply And.intro) <;> (first | rfl | trivial | (simp only [hmm]; done) | (simp only [hmm]; rfl) | (simp only [hmm]; trivial)))
  · have d0 : ¬ nxV l j 3 = 0 := by omega
    have hX : rnX p l r j = (pwait p r (1 + nxV l (nxA l j 3) 3) 0, nxA l (nxA l j 3) 3) := by rw [hXX, if_neg d0, if_pos hv]
    clear hXX c1
    have h33 := nxV_rng l (nxA l j 3) 3 (by omega)
    have n33 := next_spec l (nxA l j 3) 3 hl6 hl (by omega)
    have cx := c2 (1 + nxV l (nxA l j 3) 3) 0
    clear c2
    generalize pnext p r = y0 at *
    obtain ⟨y0, e0⟩ := y0
    generalize pwait p r (1 + nxV l (nxA l j 3) 3) 0 = y at *
    obtain ⟨y, e⟩ := y
    by_cases he : e = 0
    · have hS : rnS p l (r, j) = (y, nxA l (nxA l j 3) 3) := by unfold rnS; simp only [hX, he, if_true]
      rw [hS] at hL hok
      simp only [go_sem, Nat.reduceEqDiff, Nat.reduceAdd, Nat.reduceSub, Nat.reduceMul, Nat.reduceLT, Nat.reduceLeDiff, ↓reduceIte, reduceCtorEq, List.reduceReplicate, Int.cast_ofNat_Int, Int.reduceEq, Int.reduceLT, Int.reduceLE, decide_eq_true hlt, lends]
      repeat' (first
    | with_reducible refine And.intro ?_ ?_
    | (unfold OKC; kernel_rfl)
    | (apply okc_up <;> (first | ((repeat (first | exact Sub.nil | apply Sub.gfp | apply Sub.same)); done) | kernel_rfl))
    | (unfold EDG; kernel_rfl)
    | (intros; (try simp only [Bool.and_eq_true, Bool.or_eq_true, Bool.not_eq_true', Bool.not_eq_false', Bool.and_eq_false_iff, Bool.or_eq_false_iff, decide_eq_true_eq, decide_eq_false_iff_not] at *); omega)
    | (refine gt_if (fun h => ?_) (fun h => ?_) <;> (try simp only [h]))
    | (refine pt_if (fun h => ?_) (fun h => ?_) <;> (try simp only [h]))
    | (refine cd_if (fun h => ?_) (fun h => ?_) <;> (try simp only [h]))
    | (apply cl_plain
       case hs => rfl
       case ha => (simp only [List.map_cons, List.map_nil, prepV, prepC, idx, hpL', lookR, Nat.reduceEqDiff, if_true, if_false]; rfl)
       case h => (first | exact n3 .. | exact c0 .. | exact n33 .. | exact cx ..))
    | (apply cl_lend
       case hr => (simp only [List.map_cons, List.map_nil, hpL', lookR, Nat.reduceEqDiff, if_true, if_false]; first | exact map1 _ | exact map2 _ _ | exact map3 _ _ _)
       case ha => (simp only [List.map_cons, List.map_nil, prepV, prepC, idx, hpL', lookR, Nat.reduceEqDiff, if_true, if_false]; rfl)
       case hs => rfl
       case hn => decide
       case h => (first | exact n3 .. | exact c0 .. | exact n33 .. | exact cx ..)
       case hf => (simp only [List.forall_mem_cons, List.not_mem_nil, false_implies, implies_true, and_true, true_and, flat_cons, flat_nil, flat_ints, flat_bools, flat_app, Cell.refs, and_self, eq_self_iff_true, List.append_nil])
       case hl => (simp only [List.length_cons, List.length_nil]; decide))
    | (apply cl_use
       case hr => (simp only [List.map_cons, List.map_nil, hpL', lookR, Nat.reduceEqDiff, if_true, if_false]; first | exact map0 | exact map1 _ | exact map2 _ _ | exact map3 _ _ _)
       case ha => (simp only [List.map_cons, List.map_nil, prepV, prepC, idx, hpL', lookR, Nat.reduceEqDiff, if_true, if_false]; rfl)
       case hs => (simp only [snaps, SV.refs, Cell.refs, idx, List.flatMap_cons, List.flatMap_nil, List.nil_append, List.cons_append, List.append_nil, List.filter_cons, List.filter_nil, Nat.reduceEqDiff, if_true, if_false, Option.isNone_none, Option.isNone_some, Bool.false_eq_true, reduceCtorEq, ↓reduceIte]; rfl)
       case hn => decide
       case h => (first | exact n3 .. | exact c0 .. | exact n33 .. | exact cx ..)
       case hf => (simp only [List.forall_mem_cons, List.not_mem_nil, false_implies, implies_true, and_true, true_and, flat_cons, flat_nil, flat_ints, flat_bools, flat_app, Cell.refs, and_self, eq_self_iff_true, List.append_nil])
       case hg => ((simp [hpL', lookR, Cell.isG]) <;> (repeat' apply And.intro) <;> exact Ints_isG _)
       case hl => (simp only [List.length_cons, List.length_nil]; decide))
    | ((first | refine s1_id ?_ | refine swp_id ?_ | refine sops_id ?_ | refine s2_id ?_); simp only [decide_eq_true hlt, lends, decide_eq_false d0, decide_eq_true hv, decide_eq_true he, decide_true, go_sem, Nat.reduceEqDiff, Nat.reduceAdd, Nat.reduceSub, Nat.reduceMul, Nat.reduceLT, Nat.reduceLeDiff, ↓reduceIte, reduceCtorEq, List.reduceReplicate, Int.cast_ofNat_Int, Int.reduceEq, Int.reduceLT, Int.reduceLE, SV.ren, SV.renL, Cell.ren, Row.ren, renO, bk, back, outUpsFrom, Ints_ren]))
      refine le_mk (m, y, nxA l (nxA l j 3) 3) ?_ ⟨by show m ≤ 6; omega, hok, hL⟩ (by show m < m + 1; omega)
      (refine imp_ren _ _ _ [(0, 0, dice l (nxA l (nxA l j 3) 3)), (1, 1, ⟨[int 0, int 0, int 0, int 0, int 0, int 0], 6⟩), (2, 2, ⟨[int y.t, int y.p, int y.a, int y.l, int y.s, int y.u], 6⟩)] (by simp) (by simp) (by simp) (Nat.le_of_ble_eq_true rfl) ?_ rfl (by simp only [List.forall_mem_cons, List.not_mem_nil, false_implies, implies_true, and_true, St.hpF, lookR, Nat.reduceEqDiff, if_true, if_false, ↓reduceIte, dice] <;> (repeat' apply And.intro) <;> (first | rfl | trivial)) (by simp only [List.forall_mem_cons, List.not_mem_nil, false_implies, implies_true, and_true, true_and, flat_cons, flat_nil, flat_ints, flat_bools, flat_app, Cell.refs, and_self, eq_self_iff_true, List.append_nil, dice]); simp only [List.map_cons, List.map_nil, List.forall_mem_cons, List.not_mem_nil, false_implies, implies_true, and_true, lk, slot, SV.ren, Cell.ren, toN, Nat.reduceEqDiff, if_true, if_false, ↓reduceIte, reduceCtorEq])
      all_goals ((repeat' apply And.intro) <;> (first | rfl | trivial | (simp only [hmm]; done) | (simp only [hmm]; rfl) | (simp only [hmm]; trivial)))
    · have hS : rnS p l (r, j) = (r, nxA l (nxA l j 3) 3) := by unfold rnS; simp only [hX, he, if_false]
      rw [hS] at hL hok
      simp only [go_sem, Nat.reduceEqDiff, Nat.reduceAdd, Nat.reduceSub, Nat.reduceMul, Nat.reduceLT, Nat.reduceLeDiff, ↓reduceIte, reduceCtorEq, List.reduceReplicate, Int.cast_ofNat_Int, Int.reduceEq, Int.reduceLT, Int.reduceLE, decide_eq_true hlt, lends]
      repeat' (first
    | with_reducible refine And.intro ?_ ?_
    | (unfold OKC; kernel_rfl)
    | (apply okc_up <;> (first | ((repeat (first | exact Sub.nil | apply Sub.gfp | apply Sub.same)); done) | kernel_rfl))
    | (unfold EDG; kernel_rfl)
    | (intros; (try simp only [Bool.and_eq_true, Bool.or_eq_true, Bool.not_eq_true', Bool.not_eq_false', Bool.and_eq_false_iff, Bool.or_eq_false_iff, decide_eq_true_eq, decide_eq_false_iff_not] at *); omega)
    | (refine gt_if (fun h => ?_) (fun h => ?_) <;> (try simp only [h]))
    | (refine pt_if (fun h => ?_) (fun h => ?_) <;> (try simp only [h]))
    | (refine cd_if (fun h => ?_) (fun h => ?_) <;> (try simp only [h]))
    | (apply cl_plain
       case hs => rfl
       case ha => (simp only [List.map_cons, List.map_nil, prepV, prepC, idx, hpL', lookR, Nat.reduceEqDiff, if_true, if_false]; rfl)
       case h => (first | exact n3 .. | exact c0 .. | exact n33 .. | exact cx ..))
    | (apply cl_lend
       case hr => (simp only [List.map_cons, List.map_nil, hpL', lookR, Nat.reduceEqDiff, if_true, if_false]; first | exact map1 _ | exact map2 _ _ | exact map3 _ _ _)
       case ha => (simp only [List.map_cons, List.map_nil, prepV, prepC, idx, hpL', lookR, Nat.reduceEqDiff, if_true, if_false]; rfl)
       case hs => rfl
       case hn => decide
       case h => (first | exact n3 .. | exact c0 .. | exact n33 .. | exact cx ..)
       case hf => (simp only [List.forall_mem_cons, List.not_mem_nil, false_implies, implies_true, and_true, true_and, flat_cons, flat_nil, flat_ints, flat_bools, flat_app, Cell.refs, and_self, eq_self_iff_true, List.append_nil])
       case hl => (simp only [List.length_cons, List.length_nil]; decide))
    | (apply cl_use
       case hr => (simp only [List.map_cons, List.map_nil, hpL', lookR, Nat.reduceEqDiff, if_true, if_false]; first | exact map0 | exact map1 _ | exact map2 _ _ | exact map3 _ _ _)
       case ha => (simp only [List.map_cons, List.map_nil, prepV, prepC, idx, hpL', lookR, Nat.reduceEqDiff, if_true, if_false]; rfl)
       case hs => (simp only [snaps, SV.refs, Cell.refs, idx, List.flatMap_cons, List.flatMap_nil, List.nil_append, List.cons_append, List.append_nil, List.filter_cons, List.filter_nil, Nat.reduceEqDiff, if_true, if_false, Option.isNone_none, Option.isNone_some, Bool.false_eq_true, reduceCtorEq, ↓reduceIte]; rfl)
       case hn => decide
       case h => (first | exact n3 .. | exact c0 .. | exact n33 .. | exact cx ..)
       case hf => (simp only [List.forall_mem_cons, List.not_mem_nil, false_implies, implies_true, and_true, true_and, flat_cons, flat_nil, flat_ints, flat_bools, flat_app, Cell.refs, and_self, eq_self_iff_true, List.append_nil])
       case hg => ((simp [hpL', lookR, Cell.isG]) <;> (repeat' apply And.intro) <;> exact Ints_isG _)
       case hl => (simp only [List.length_cons, List.length_nil]; decide))
    | ((first | refine s1_id ?_ | refine swp_id ?_ | refine sops_id ?_ | refine s2_id ?_); simp only [decide_eq_true hlt, lends, decide_eq_false d0, decide_eq_true hv, decide_eq_false he, decide_true, go_sem, Nat.reduceEqDiff, Nat.reduceAdd, Nat.reduceSub, Nat.reduceMul, Nat.reduceLT, Nat.reduceLeDiff, ↓reduceIte, reduceCtorEq, List.reduceReplicate, Int.cast_ofNat_Int, Int.reduceEq, Int.reduceLT, Int.reduceLE, SV.ren, SV.renL, Cell.ren, Row.ren, renO, bk, back, outUpsFrom, Ints_ren]))
      refine le_mk (m, r, nxA l (nxA l j 3) 3) ?_ ⟨by show m ≤ 6; omega, hok, hL⟩ (by show m < m + 1; omega)
      (refine imp_ren _ _ _ [(0, 0, dice l (nxA l (nxA l j 3) 3)), (1, 1, ⟨[int 0, int 0, int 0, int 0, int 0, int 0], 6⟩), (2, 2, ⟨[int r.t, int r.p, int r.a, int r.l, int r.s, int r.u], 6⟩)] (by simp) (by simp) (by simp) (Nat.le_of_ble_eq_true rfl) ?_ rfl (by simp only [List.forall_mem_cons, List.not_mem_nil, false_implies, implies_true, and_true, St.hpF, lookR, Nat.reduceEqDiff, if_true, if_false, ↓reduceIte, dice] <;> (repeat' apply And.intro) <;> (first | rfl | trivial)) (by simp only [List.forall_mem_cons, List.not_mem_nil, false_implies, implies_true, and_true, true_and, flat_cons, flat_nil, flat_ints, flat_bools, flat_app, Cell.refs, and_self, eq_self_iff_true, List.append_nil, dice]); simp only [List.map_cons, List.map_nil, List.forall_mem_cons, List.not_mem_nil, false_implies, implies_true, and_true, lk, slot, SV.ren, Cell.ren, toN, Nat.reduceEqDiff, if_true, if_false, ↓reduceIte, reduceCtorEq])
      all_goals ((repeat' apply And.intro) <;> (first | rfl | trivial | (simp only [hmm]; done) | (simp only [hmm]; rfl) | (simp only [hmm]; trivial)))
  · have d0 : ¬ nxV l j 3 = 0 := by omega
    have d1 : ¬ nxV l j 3 = 1 := by omega
    have hX : rnX p l r j = (pnext p r, nxA l j 3) := by rw [hXX, if_neg d0, if_neg d1]
    clear hXX c1 c2
    generalize pnext p r = y at *
    obtain ⟨y, e⟩ := y
    by_cases he : e = 0
    · have hS : rnS p l (r, j) = (y, nxA l j 3) := by unfold rnS; simp only [hX, he, if_true]
      rw [hS] at hL hok
      simp only [go_sem, Nat.reduceEqDiff, Nat.reduceAdd, Nat.reduceSub, Nat.reduceMul, Nat.reduceLT, Nat.reduceLeDiff, ↓reduceIte, reduceCtorEq, List.reduceReplicate, Int.cast_ofNat_Int, Int.reduceEq, Int.reduceLT, Int.reduceLE, decide_eq_true hlt, lends]
      repeat' (first
    | with_reducible refine And.intro ?_ ?_
    | (unfold OKC; kernel_rfl)
    | (apply okc_up <;> (first | ((repeat (first | exact Sub.nil | apply Sub.gfp | apply Sub.same)); done) | kernel_rfl))
    | (unfold EDG; kernel_rfl)
    | (intros; (try simp only [Bool.and_eq_true, Bool.or_eq_true, Bool.not_eq_true', Bool.not_eq_false', Bool.and_eq_false_iff, Bool.or_eq_false_iff, decide_eq_true_eq, decide_eq_false_iff_not] at *); omega)
    | (refine gt_if (fun h => ?_) (fun h => ?_) <;> (try simp only [h]))
    | (refine pt_if (fun h => ?_) (fun h => ?_) <;> (try simp only [h]))
    | (refine cd_if (fun h => ?_) (fun h => ?_) <;> (try simp only [h]))
    | (apply cl_plain
       case hs => rfl
       case ha => (simp only [List.map_cons, List.map_nil, prepV, prepC, idx, hpL', lookR, Nat.reduceEqDiff, if_true, if_false]; rfl)
       case h => (first | exact n3 .. | exact c0 .. | exact c0 ..))
    | (apply cl_lend
       case hr => (simp only [List.map_cons, List.map_nil, hpL', lookR, Nat.reduceEqDiff, if_true, if_false]; first | exact map1 _ | exact map2 _ _ | exact map3 _ _ _)
       case ha => (simp only [List.map_cons, List.map_nil, prepV, prepC, idx, hpL', lookR, Nat.reduceEqDiff, if_true, if_false]; rfl)
       case hs => rfl
       case hn => decide
       case h => (first | exact n3 .. | exact c0 .. | exact c0 ..)
       case hf => (simp only [List.forall_mem_cons, List.not_mem_nil, false_implies, implies_true, and_true, true_and, flat_cons, flat_nil, flat_ints, flat_bools, flat_app, Cell.refs, and_self, eq_self_iff_true, List.append_nil])
       case hl => (simp only [List.length_cons, List.length_nil]; decide))
    | (apply cl_use
       case hr => (simp only [List.map_cons, List.map_nil, hpL', lookR, Nat.reduceEqDiff, if_true, if_false]; first | exact map0 | exact map1 _ | exact map2 _ _ | exact map3 _ _ _)
       case ha => (simp only [List.map_cons, List.map_nil, prepV, prepC, idx, hpL', lookR, Nat.reduceEqDiff, if_true, if_false]; rfl)
       case hs => (simp only [snaps, SV.refs, Cell.refs, idx, List.flatMap_cons, List.flatMap_nil, List.nil_append, List.cons_append, List.append_nil, List.filter_cons, List.filter_nil, Nat.reduceEqDiff, if_true, if_false, Option.isNone_none, Option.isNone_some, Bool.false_eq_true, reduceCtorEq, ↓reduceIte]; rfl)
       case hn => decide
       case h => (first | exact n3 .. | exact c0 .. | exact c0 ..)
       case hf => (simp only [List.forall_mem_cons, List.not_mem_nil, false_implies, implies_true, and_true, true_and, flat_cons, flat_nil, flat_ints, flat_bools, flat_app, Cell.refs, and_self, eq_self_iff_true, List.append_nil])
       case hg => ((simp [hpL', lookR, Cell.isG]) <;> (repeat' apply And.intro) <;> exact Ints_isG _)
       case hl => (simp only [List.length_cons, List.length_nil]; decide))
    | ((first | refine s1_id ?_ | refine swp_id ?_ | refine sops_id ?_ | refine s2_id ?_); simp only [decide_eq_true hlt, lends, decide_eq_false d0, decide_eq_false d1, decide_eq_true he, decide_true, go_sem, Nat.reduceEqDiff, Nat.reduceAdd, Nat.reduceSub, Nat.reduceMul, Nat.reduceLT, Nat.reduceLeDiff, ↓reduceIte, reduceCtorEq, List.reduceReplicate, Int.cast_ofNat_Int, Int.reduceEq, Int.reduceLT, Int.reduceLE, SV.ren, SV.renL, Cell.ren, Row.ren, renO, bk, back, outUpsFrom, Ints_ren]))
      refine le_mk (m, y, nxA l j 3) ?_ ⟨by show m ≤ 6; omega, hok, hL⟩ (by show m < m + 1; omega)
      (refine imp_ren _ _ _ [(0, 0, dice l (nxA l j 3)), (1, 1, ⟨[int 0, int 0, int 0, int 0, int 0, int 0], 6⟩), (2, 2, ⟨[int y.t, int y.p, int y.a, int y.l, int y.s, int y.u], 6⟩)] (by simp) (by simp) (by simp) (Nat.le_of_ble_eq_true rfl) ?_ rfl (by simp only [List.forall_mem_cons, List.not_mem_nil, false_implies, implies_true, and_true, St.hpF, lookR, Nat.reduceEqDiff, if_true, if_false, ↓reduceIte, dice] <;> (repeat' apply And.intro) <;> (first | rfl | trivial)) (by simp only [List.forall_mem_cons, List.not_mem_nil, false_implies, implies_true, and_true, true_and, flat_cons, flat_nil, flat_ints, flat_bools, flat_app, Cell.refs, and_self, eq_self_iff_true, List.append_nil, dice]); simp only [List.map_cons, List.map_nil, List.forall_mem_cons, List.not_mem_nil, false_implies, implies_true, and_true, lk, slot, SV.ren, Cell.ren, toN, Nat.reduceEqDiff, if_true, if_false, ↓reduceIte, reduceCtorEq])
      all_goals ((repeat' apply And.intro) <;> (first | rfl | trivial | (simp only [hmm]; done) | (simp only [hmm]; rfl) | (simp only [hmm]; trivial)))
    · have hS : rnS p l (r, j) = (r, nxA l j 3) := by unfold rnS; simp only [hX, he, if_false]
      rw [hS] at hL hok
      simp only [go_sem, Nat.reduceEqDiff, Nat.reduceAdd, Nat.reduceSub, Nat.reduceMul, Nat.reduceLT, Nat.reduceLeDiff, ↓reduceIte, reduceCtorEq, List.reduceReplicate, Int.cast_ofNat_Int, Int.reduceEq, Int.reduceLT, Int.reduceLE, decide_eq_true hlt, lends]
      repeat' (first
    | with_reducible refine And.intro ?_ ?_
    | (unfold OKC; kernel_rfl)
    | (apply okc_up <;> (first | ((repeat (first | exact Sub.nil | apply Sub.gfp | apply Sub.same)); done) | kernel_rfl))
    | (unfold EDG; kernel_rfl)
    | (intros; (try simp only [Bool.and_eq_true, Bool.or_eq_true, Bool.not_eq_true', Bool.not_eq_false', Bool.and_eq_false_iff, Bool.or_eq_false_iff, decide_eq_true_eq, decide_eq_false_iff_not] at *); omega)
    | (refine gt_if (fun h => ?_) (fun h => ?_) <;> (try simp only [h]))
    | (refine pt_if (fun h => ?_) (fun h => ?_) <;> (try simp only [h]))
    | (refine cd_if (fun h => ?_) (fun h => ?_) <;> (try simp only [h]))
    | (apply cl_plain
       case hs => rfl
       case ha => (simp only [List.map_cons, List.map_nil, prepV, prepC, idx, hpL', lookR, Nat.reduceEqDiff, if_true, if_false]; rfl)
       case h => (first | exact n3 .. | exact c0 .. | exact c0 ..))
    | (apply cl_lend
       case hr => (simp only [List.map_cons, List.map_nil, hpL', lookR, Nat.reduceEqDiff, if_true, if_false]; first | exact map1 _ | exact map2 _ _ | exact map3 _ _ _)
       case ha => (simp only [List.map_cons, List.map_nil, prepV, prepC, idx, hpL', lookR, Nat.reduceEqDiff, if_true, if_false]; rfl)
       case hs => rfl
       case hn => decide
       case h => (first | exact n3 .. | exact c0 .. | exact c0 ..)
       case hf => (simp only [List.forall_mem_cons, List.not_mem_nil, false_implies, implies_true, and_true, true_and, flat_cons, flat_nil, flat_ints, flat_bools, flat_app, Cell.refs, and_self, eq_self_iff_true, List.append_nil])
       case hl => (simp only [List.length_cons, List.length_nil]; decide))
    | (apply cl_use
       case hr => (simp only [List.map_cons, List.map_nil, hpL', lookR, Nat.reduceEqDiff, if_true, if_false]; first | exact map0 | exact map1 _ | exact map2 _ _ | exact map3 _ _ _)
       case ha => (simp only [List.map_cons, List.map_nil, prepV, prepC, idx, hpL', lookR, Nat.reduceEqDiff, if_true, if_false]; rfl)
       case hs => (simp only [snaps, SV.refs, Cell.refs, idx, List.flatMap_cons, List.flatMap_nil, List.nil_append, List.cons_append, List.append_nil, List.filter_cons, List.filter_nil, Nat.reduceEqDiff, if_true, if_false, Option.isNone_none, Option.isNone_some, Bool.false_eq_true, reduceCtorEq, ↓reduceIte]; rfl)
       case hn => decide
       case h => (first | exact n3 .. | exact c0 .. | exact c0 ..)
       case hf => (simp only [List.forall_mem_cons, List.not_mem_nil, false_implies, implies_true, and_true, true_and, flat_cons, flat_nil, flat_ints, flat_bools, flat_app, Cell.refs, and_self, eq_self_iff_true, List.append_nil])
       case hg => ((simp [hpL', lookR, Cell.isG]) <;> (repeat' apply And.intro) <;> exact Ints_isG _)
       case hl => (simp only [List.length_cons, List.length_nil]; decide))
    | ((first | refine s1_id ?_ | refine swp_id ?_ | refine sops_id ?_ | refine s2_id ?_); simp only [decide_eq_true hlt, lends, decide_eq_false d0, decide_eq_false d1, decide_eq_false he, decide_true, go_sem, Nat.reduceEqDiff, Nat.reduceAdd, Nat.reduceSub, Nat.reduceMul, Nat.reduceLT, Nat.reduceLeDiff, ↓reduceIte, reduceCtorEq, List.reduceReplicate, Int.cast_ofNat_Int, Int.reduceEq, Int.reduceLT, Int.reduceLE, SV.ren, SV.renL, Cell.ren, Row.ren, renO, bk, back, outUpsFrom, Ints_ren]))
      refine le_mk (m, r, nxA l j 3) ?_ ⟨by show m ≤ 6; omega, hok, hL⟩ (by show m < m + 1; omega)
      (refine imp_ren _ _ _ [(0, 0, dice l (nxA l j 3)), (1, 1, ⟨[int 0, int 0, int 0, int 0, int 0, int 0], 6⟩), (2, 2, ⟨[int r.t, int r.p, int r.a, int r.l, int r.s, int r.u], 6⟩)] (by simp) (by simp) (by simp) (Nat.le_of_ble_eq_true rfl) ?_ rfl (by simp only [List.forall_mem_cons, List.not_mem_nil, false_implies, implies_true, and_true, St.hpF, lookR, Nat.reduceEqDiff, if_true, if_false, ↓reduceIte, dice] <;> (repeat' apply And.intro) <;> (first | rfl | trivial)) (by simp only [List.forall_mem_cons, List.not_mem_nil, false_implies, implies_true, and_true, true_and, flat_cons, flat_nil, flat_ints, flat_bools, flat_app, Cell.refs, and_self, eq_self_iff_true, List.append_nil, dice]); simp only [List.map_cons, List.map_nil, List.forall_mem_cons, List.not_mem_nil, false_implies, implies_true, and_true, lk, slot, SV.ren, Cell.ren, toN, Nat.reduceEqDiff, if_true, if_false, ↓reduceIte, reduceCtorEq])
      all_goals ((repeat' apply And.intro) <;> (first | rfl | trivial | (simp only [hmm]; done) | (simp only [hmm]; rfl) | (simp only [hmm]; trivial)))
end Go.Proofs.Ytdpekegikbbeoaa
