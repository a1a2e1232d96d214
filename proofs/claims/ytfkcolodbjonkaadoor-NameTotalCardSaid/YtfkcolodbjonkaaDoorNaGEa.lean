/- Contracts of functions, told of values, on the way to NameTotal. -/
import Derived.Test.YtfkcolodbjonkaaDoorTyEa
import Derived.Test.YtfkcolodbjonkaaDoorNaFEa
import Derived.Test.YtfkcolodbjonkaaDoorShSz
-- NEWGO
-- PRUNE: cl_lendx cl_use
-- ISG: Strs_isG
-- FLAT: Strs_flat
namespace Go.Proofs.YtfkcolodbjonkaaDoor
set_option linter.unusedVariables false
set_option linter.unusedSimpArgs false
open Go.Proofs.YtfkcolodbjonkaaDoor.Sh
set_option maxRecDepth 20000
theorem getD_mem (L : List Str) (i : Nat) (h : i < L.length) : L.getD i [] ∈ L := by
  rw [List.getD_eq_getElem?_getD, List.getElem?_eq_getElem h]
  exact List.getElem_mem _
set_option maxHeartbeats 8000000 in
theorem total_spec (x y z : Str) (l : List Int) (hx : x.length ≤ 140737488351232) (hy : y.length ≤ 140737488351232) (hz : z.length ≤ 140737488351232) (hr : ∀ x ∈ l, -9223372036854775808 ≤ x ∧ x ≤ 9223372036854775807) : FnSpec Tryd.prog 8 [s1 x, s1 y, s1 z, gi l none] [] (b1 true) [] := by
  by_cases hlr : 500 < (x.length : Int) + (y.length : Int) + (z.length : Int)
  · refine fnspec_of mixed TT_ok TT_cl ⟨fun _ => false, fun _ => [], 0, fun _ => false, fun _ => false⟩ Tryd.func8 rfl (by kernel_rfl) rfl 131 rfl [.tmp 8] rfl ?_
    simp only [go_sem, Nat.reduceEqDiff, Nat.reduceAdd, Nat.reduceSub, Nat.reduceMul, Nat.reduceLT, Nat.reduceLeDiff, ↓reduceIte, reduceCtorEq, List.reduceReplicate, Int.cast_ofNat_Int, Int.reduceEq, Int.reduceLT, Int.reduceLE, decide_eq_true hlr]
    repeat' (first
    | with_reducible refine And.intro ?_ ?_
    | (intros; (try simp only [Bool.and_eq_true, Bool.or_eq_true, Bool.not_eq_true', Bool.not_eq_false', Bool.and_eq_false_iff, Bool.or_eq_false_iff, decide_eq_true_eq, decide_eq_false_iff_not] at *); omega)
    | (apply cl_plain
       case hs => rfl
       case ha => (simp only [List.map_cons, List.map_nil, prepV, prepC, idx, hpL', lookR, Nat.reduceEqDiff, if_true, if_false]; rfl)
       case h => (first | exact light_spec .. | exact sane_spec ..))
    | ((first | refine s1_id ?_ | refine swp_id ?_ | refine sops_id ?_ | refine s2_id ?_); simp only [decide_eq_true hlr, go_sem, Nat.reduceEqDiff, Nat.reduceAdd, Nat.reduceSub, Nat.reduceMul, Nat.reduceLT, Nat.reduceLeDiff, ↓reduceIte, reduceCtorEq, List.reduceReplicate, Int.cast_ofNat_Int, Int.reduceEq, Int.reduceLT, Int.reduceLE, SV.ren, SV.renL, Cell.ren, Row.ren, renO, bk, back, outUpsFrom, Ints_ren])
    | (apply fs_nil <;> (try simp only [go_sem, resV, resS, SV.ren, SV.renL, Cell.ren, St.tmF, St.hpF, idx, renO, Row.ren, evS, slot, lookR, Nat.reduceEqDiff, ↓reduceIte, reduceCtorEq, if_true, if_false, Option.getD_some, Option.getD_none, List.map_cons, List.map_nil, sLoad, readAt, readNeed, Ints_ren, Ints_length, Ints_getD, and_true, true_and, List.getD_cons_zero, List.getD_cons_succ]) <;> (try rfl)))
  by_cases hlen : (l.length : Int) ≤ 600
  case neg =>
    refine fnspec_of mixed TT_ok TT_cl ⟨fun _ => false, fun _ => [], 0, fun _ => false, fun _ => false⟩ Tryd.func8 rfl (by kernel_rfl) rfl 131 rfl [.tmp 8] rfl ?_
    simp only [go_sem, Nat.reduceEqDiff, Nat.reduceAdd, Nat.reduceSub, Nat.reduceMul, Nat.reduceLT, Nat.reduceLeDiff, ↓reduceIte, reduceCtorEq, List.reduceReplicate, Int.cast_ofNat_Int, Int.reduceEq, Int.reduceLT, Int.reduceLE, decide_eq_false hlr]
    repeat' (first
    | with_reducible refine And.intro ?_ ?_
    | (intros; (try simp only [Bool.and_eq_true, Bool.or_eq_true, Bool.not_eq_true', Bool.not_eq_false', Bool.and_eq_false_iff, Bool.or_eq_false_iff, decide_eq_true_eq, decide_eq_false_iff_not] at *); omega)
    | (apply cg_tp
       case hl => rfl
       case ha => (simp only [List.map_cons, List.map_nil, prepV, prepC, idx, hpL', lookR, Nat.reduceEqDiff, if_true, if_false]; rfl)
       case hs => rfl
       case h => (first | exact light_spec .. | exact sane_spec ..))
    | (apply cl_plain
       case hs => rfl
       case ha => (simp only [List.map_cons, List.map_nil, prepV, prepC, idx, hpL', lookR, Nat.reduceEqDiff, if_true, if_false]; rfl)
       case h => (first | exact light_spec .. | exact sane_spec ..))
    | ((first | refine s1_id ?_ | refine swp_id ?_ | refine sops_id ?_ | refine s2_id ?_); simp only [decide_eq_false hlr, decide_eq_false hlen, go_sem, Nat.reduceEqDiff, Nat.reduceAdd, Nat.reduceSub, Nat.reduceMul, Nat.reduceLT, Nat.reduceLeDiff, ↓reduceIte, reduceCtorEq, List.reduceReplicate, Int.cast_ofNat_Int, Int.reduceEq, Int.reduceLT, Int.reduceLE, SV.ren, SV.renL, Cell.ren, Row.ren, renO, bk, back, outUpsFrom, Ints_ren])
    | (apply fs_nil <;> (try simp only [go_sem, resV, resS, SV.ren, SV.renL, Cell.ren, St.tmF, St.hpF, idx, renO, Row.ren, evS, slot, lookR, Nat.reduceEqDiff, ↓reduceIte, reduceCtorEq, if_true, if_false, Option.getD_some, Option.getD_none, List.map_cons, List.map_nil, sLoad, readAt, readNeed, Ints_ren, Ints_length, Ints_getD, and_true, true_and, List.getD_cons_zero, List.getD_cons_succ]) <;> (try rfl)))
  have hl : l.length ≤ 600 := by omega
  have p1 := path_spec hl hr 0
  have q1 := pn_len l 0
  obtain ⟨u, hu⟩ : ∃ u, ptV l 0 = u := ⟨_, rfl⟩
  rw [hu] at p1 q1
  clear hu
  obtain ⟨a1, j1⟩ := u
  have p2 := path_spec hl hr j1
  have q2 := pn_len l j1
  obtain ⟨u, hu⟩ : ∃ u, ptV l j1 = u := ⟨_, rfl⟩
  rw [hu] at p2 q2
  clear hu
  obtain ⟨a2, j2⟩ := u
  have p3 := word_spec hl hr j2
  have q3 := wdV_len l j2
  generalize wdV l j2 = a3 at *
  generalize nxA l j2 12 = j3 at *
  simp only at p1 p2 q1 q2
  refine fnspec_of mixed TT_ok TT_cl ⟨fun _ => false, fun f => if f = 15 then [0] else if f = 19 then [0] else [], 0, fun _ => false, fun _ => false⟩ Tryd.func8 rfl (by kernel_rfl) rfl 131 rfl [.tmp 8] rfl ?_
  simp only [go_sem, Nat.reduceEqDiff, Nat.reduceAdd, Nat.reduceSub, Nat.reduceMul, Nat.reduceLT, Nat.reduceLeDiff, ↓reduceIte, reduceCtorEq, List.reduceReplicate, Int.cast_ofNat_Int, Int.reduceEq, Int.reduceLT, Int.reduceLE, decide_eq_false hlr]
  repeat' (first
    | with_reducible refine And.intro ?_ ?_
    | (intros; (try simp only [Bool.and_eq_true, Bool.or_eq_true, Bool.not_eq_true', Bool.not_eq_false', Bool.and_eq_false_iff, Bool.or_eq_false_iff, decide_eq_true_eq, decide_eq_false_iff_not] at *); omega)
    | (apply cg_tp
       case hl => rfl
       case ha => (simp only [List.map_cons, List.map_nil, prepV, prepC, idx, hpL', lookR, Nat.reduceEqDiff, if_true, if_false]; rfl)
       case hs => rfl
       case h => (first | exact light_spec .. | exact roll_spec .. | exact p1 .. | exact p2 .. | exact p3 ..))
    | (apply cl_plain
       case hs => rfl
       case ha => (simp only [List.map_cons, List.map_nil, prepV, prepC, idx, hpL', lookR, Nat.reduceEqDiff, if_true, if_false]; rfl)
       case h => (first | exact light_spec .. | exact roll_spec .. | exact p1 .. | exact p2 .. | exact p3 ..))
    | (apply cl_lend
       case hr => (simp only [List.map_cons, List.map_nil, hpL', lookR, Nat.reduceEqDiff, if_true, if_false]; first | exact map1 _ | exact map2 _ _ | exact map3 _ _ _)
       case ha => (simp only [List.map_cons, List.map_nil, prepV, prepC, idx, hpL', lookR, Nat.reduceEqDiff, if_true, if_false]; rfl)
       case hs => rfl
       case hn => decide
       case h => (first | exact light_spec .. | exact roll_spec .. | exact p1 .. | exact p2 .. | exact p3 ..)
       case hf => (simp only [List.forall_mem_cons, List.not_mem_nil, false_implies, implies_true, and_true, true_and, flat_cons, flat_nil, flat_ints, flat_bools, flat_app, Strs_flat, Cell.refs, and_self, eq_self_iff_true, List.append_nil])
       case hl => (simp only [List.length_cons, List.length_nil]; decide))
    | ((first | refine s1_id ?_ | refine swp_id ?_ | refine sops_id ?_ | refine s2_id ?_); simp only [decide_eq_false hlr, decide_eq_true hlen, dice, go_sem, Nat.reduceEqDiff, Nat.reduceAdd, Nat.reduceSub, Nat.reduceMul, Nat.reduceLT, Nat.reduceLeDiff, ↓reduceIte, reduceCtorEq, List.reduceReplicate, Int.cast_ofNat_Int, Int.reduceEq, Int.reduceLT, Int.reduceLE, SV.ren, SV.renL, Cell.ren, Row.ren, renO, bk, back, outUpsFrom, Ints_ren]))
  obtain ⟨L, hL⟩ : ∃ L : List Str, [x, y, z, a1, a2, a3] = L := ⟨_, rfl⟩
  have e0 : Strs L = [st x, st y, st z, st a1, st a2, st a3] := by rw [← hL]; rfl
  have e1 : L.length = 6 := by rw [← hL]; rfl
  have e2 : ∀ x ∈ L, x.length ≤ 1000 := by
    intro w hw
    rw [← hL] at hw
    simp only [List.mem_cons, List.not_mem_nil, or_false] at hw
    rcases hw with rfl | rfl | rfl | rfl | rfl | rfl <;> omega
  clear hL p1 p2 p3 q1 q2 q3 hlr
  have hfl : flat (Strs L) = True := eq_true (Strs_flat _)
  refine w_loop (ι := Nat) (fun n => ⟨[(10, .one (.osl 0 0 6 (some 6))), (45, .one (.osl 0 0 6 (some 6))), (46, i1 6), (47, i1 n)], [(0, some ⟨Strs L, 1⟩)], 1⟩) (fun n => n ≤ 6) (fun n => 6 - n) 0 ?_ (Nat.zero_le _) ?_
  · simp only [e0]
    (refine imp_ren _ _ _ [(0, 27, ⟨[st x, st y, st z, st a1, st a2, st a3], 1⟩)] (by simp) (by simp) (by simp) (Nat.le_of_ble_eq_true rfl) ?_ rfl (by simp only [List.forall_mem_cons, List.not_mem_nil, false_implies, implies_true, and_true, St.hpF, lookR, Nat.reduceEqDiff, if_true, if_false, ↓reduceIte, e0] <;> (repeat' apply And.intro) <;> (first | rfl | trivial)) (by simp only [List.forall_mem_cons, List.not_mem_nil, false_implies, implies_true, and_true, true_and, flat_cons, flat_nil, flat_ints, flat_bools, flat_app, Cell.refs, and_self, eq_self_iff_true, List.append_nil, e0]); simp only [List.map_cons, List.map_nil, List.forall_mem_cons, List.not_mem_nil, false_implies, implies_true, and_true, lk, slot, SV.ren, Cell.ren, toN, Nat.reduceEqDiff, if_true, if_false, ↓reduceIte, reduceCtorEq])
    all_goals ((repeat' apply And.intro) <;> (first | rfl | trivial | (simp only []; done) | (simp only []; rfl) | (simp only []; trivial)));;
  intro n hn
  simp only at hn ⊢
  rcases Nat.lt_or_ge n 6 with hlt | hge
  case inr =>
    have c1 : ¬ (n : Int) < 6 := by omega
    simp only [go_sem, Nat.reduceEqDiff, Nat.reduceAdd, Nat.reduceSub, Nat.reduceMul, Nat.reduceLT, Nat.reduceLeDiff, ↓reduceIte, reduceCtorEq, List.reduceReplicate, Int.cast_ofNat_Int, Int.reduceEq, Int.reduceLT, Int.reduceLE, decide_eq_false c1]
    repeat' (first
    | (apply cl_plain
       case hs => rfl
       case ha => (simp only [List.map_cons, List.map_nil, prepV, prepC, idx, hpL', lookR, Nat.reduceEqDiff, if_true, if_false]; rfl)
       case h => (first | exact sane_spec ..))
    | ((first | refine s1_id ?_ | refine swp_id ?_ | refine sops_id ?_ | refine s2_id ?_); simp only [decide_eq_false c1, go_sem, Nat.reduceEqDiff, Nat.reduceAdd, Nat.reduceSub, Nat.reduceMul, Nat.reduceLT, Nat.reduceLeDiff, ↓reduceIte, reduceCtorEq, List.reduceReplicate, Int.cast_ofNat_Int, Int.reduceEq, Int.reduceLT, Int.reduceLE, SV.ren, SV.renL, Cell.ren, Row.ren, renO, bk, back, outUpsFrom, Ints_ren])
    | (apply fs_nil <;> (try simp only [go_sem, resV, resS, SV.ren, SV.renL, Cell.ren, St.tmF, St.hpF, idx, renO, Row.ren, evS, slot, lookR, Nat.reduceEqDiff, ↓reduceIte, reduceCtorEq, if_true, if_false, Option.getD_some, Option.getD_none, List.map_cons, List.map_nil, sLoad, readAt, readNeed, Ints_ren, Ints_length, Ints_getD, and_true, true_and, List.getD_cons_zero, List.getD_cons_succ]) <;> (try rfl)))
  have c1 : (n : Int) < 6 := by omega
  have hat := Strs_getD' L n (.sc (.string (bs []))) (by omega)
  have hle := e2 _ (getD_mem L n (by omega))
  generalize L.getD n [] = a at *
  simp only [go_sem, Nat.reduceEqDiff, Nat.reduceAdd, Nat.reduceSub, Nat.reduceMul, Nat.reduceLT, Nat.reduceLeDiff, ↓reduceIte, reduceCtorEq, List.reduceReplicate, Int.cast_ofNat_Int, Int.reduceEq, Int.reduceLT, Int.reduceLE, decide_eq_true c1, hat]
  repeat' (first
    | with_reducible refine And.intro ?_ ?_
    | (intros; (try simp only [Bool.and_eq_true, Bool.or_eq_true, Bool.not_eq_true', Bool.not_eq_false', Bool.and_eq_false_iff, Bool.or_eq_false_iff, decide_eq_true_eq, decide_eq_false_iff_not] at *); omega)
    | ((first | refine s1_id ?_ | refine swp_id ?_ | refine sops_id ?_ | refine s2_id ?_); simp only [decide_eq_true c1, hat, go_sem, Nat.reduceEqDiff, Nat.reduceAdd, Nat.reduceSub, Nat.reduceMul, Nat.reduceLT, Nat.reduceLeDiff, ↓reduceIte, reduceCtorEq, List.reduceReplicate, Int.cast_ofNat_Int, Int.reduceEq, Int.reduceLT, Int.reduceLE, SV.ren, SV.renL, Cell.ren, Row.ren, renO, bk, back, outUpsFrom, Ints_ren]))
  refine w_loop (ι := Nat) (fun j => ⟨[(10, .one (.osl 0 0 6 (some 6))), (12, s1 a), (45, .one (.osl 0 0 6 (some 6))), (46, i1 6), (47, i1 n), (51, .one (.osl 0 0 6 (some 6))), (52, i1 6), (53, i1 j)], [(0, some ⟨Strs L, 1⟩)], 1⟩) (fun j => j ≤ 6) (fun j => 6 - j) 0 ?_ (Nat.zero_le _) ?_
  · (refine imp_ren _ _ _ [(0, 0, ⟨Strs L, 1⟩)] (by simp) (by simp) (by simp) (Nat.le_of_ble_eq_true rfl) ?_ rfl (by simp only [List.forall_mem_cons, List.not_mem_nil, false_implies, implies_true, and_true, St.hpF, lookR, Nat.reduceEqDiff, if_true, if_false, ↓reduceIte, hfl] <;> (repeat' apply And.intro) <;> (first | rfl | trivial)) (by simp only [List.forall_mem_cons, List.not_mem_nil, false_implies, implies_true, and_true, true_and, flat_cons, flat_nil, flat_ints, flat_bools, flat_app, Cell.refs, and_self, eq_self_iff_true, List.append_nil, hfl]); simp only [List.map_cons, List.map_nil, List.forall_mem_cons, List.not_mem_nil, false_implies, implies_true, and_true, lk, slot, SV.ren, Cell.ren, toN, Nat.reduceEqDiff, if_true, if_false, ↓reduceIte, reduceCtorEq])
    all_goals ((repeat' apply And.intro) <;> (first | rfl | trivial | (simp only []; done) | (simp only []; rfl) | (simp only []; trivial)));;
  intro j hj
  simp only at hj ⊢
  rcases Nat.lt_or_ge j 6 with hltj | hgej
  case inr =>
    have c2 : ¬ (j : Int) < 6 := by omega
    simp only [go_sem, Nat.reduceEqDiff, Nat.reduceAdd, Nat.reduceSub, Nat.reduceMul, Nat.reduceLT, Nat.reduceLeDiff, ↓reduceIte, reduceCtorEq, List.reduceReplicate, Int.cast_ofNat_Int, Int.reduceEq, Int.reduceLT, Int.reduceLE, decide_eq_false c2]
    repeat' (first
    | with_reducible refine And.intro ?_ ?_
    | (intros; (try simp only [Bool.and_eq_true, Bool.or_eq_true, Bool.not_eq_true', Bool.not_eq_false', Bool.and_eq_false_iff, Bool.or_eq_false_iff, decide_eq_true_eq, decide_eq_false_iff_not] at *); omega)
    | ((first | refine s1_id ?_ | refine swp_id ?_ | refine sops_id ?_ | refine s2_id ?_); simp only [decide_eq_false c2, go_sem, Nat.reduceEqDiff, Nat.reduceAdd, Nat.reduceSub, Nat.reduceMul, Nat.reduceLT, Nat.reduceLeDiff, ↓reduceIte, reduceCtorEq, List.reduceReplicate, Int.cast_ofNat_Int, Int.reduceEq, Int.reduceLT, Int.reduceLE, SV.ren, SV.renL, Cell.ren, Row.ren, renO, bk, back, outUpsFrom, Ints_ren]))
    refine le_mk (n + 1) ?_ (by omega) (by omega)
    (refine imp_ren _ _ _ [(0, 0, ⟨Strs L, 1⟩)] (by simp) (by simp) (by simp) (Nat.le_of_ble_eq_true rfl) ?_ rfl (by simp only [List.forall_mem_cons, List.not_mem_nil, false_implies, implies_true, and_true, St.hpF, lookR, Nat.reduceEqDiff, if_true, if_false, ↓reduceIte, hfl] <;> (repeat' apply And.intro) <;> (first | rfl | trivial)) (by simp only [List.forall_mem_cons, List.not_mem_nil, false_implies, implies_true, and_true, true_and, flat_cons, flat_nil, flat_ints, flat_bools, flat_app, Cell.refs, and_self, eq_self_iff_true, List.append_nil, hfl]); simp only [List.map_cons, List.map_nil, List.forall_mem_cons, List.not_mem_nil, false_implies, implies_true, and_true, lk, slot, SV.ren, Cell.ren, toN, Nat.reduceEqDiff, if_true, if_false, ↓reduceIte, reduceCtorEq])
    all_goals ((repeat' apply And.intro) <;> (first | rfl | trivial | (simp only [Int.natCast_add]; done) | (simp only [Int.natCast_add]; rfl) | (simp only [Int.natCast_add]; trivial)))
  have c2 : (j : Int) < 6 := by omega
  have hbt := Strs_getD' L j (.sc (.string (bs []))) (by omega)
  have hlb := e2 _ (getD_mem L j (by omega))
  generalize L.getD j [] = b at *
  have m1 := compare_p a b (by omega) (by omega)
  have m2 := compare_p b a (by omega) (by omega)
  have m3 := under_p a b (by omega) (by omega)
  have r1 := pCp_rng a b
  rw [pCp_comm a b] at m2
  have r2 := pCp_zero a b
  have r3 := pCp_pre a b
  have r4 := fun c => pCp_trans a b c
  have r5 := fun c => pCp_below a b c
  generalize pCp a b = v at *
  generalize pUn a b = u at *
  have c3 : (u = true → a ≠ b → v = -1) := r3
  have E1 : (decide (v = 0) == decide (a = b)) = true := by
    rw [decide_eq_decide.2 r2]; exact beq_self_eq_true _
  have E2 : ((u && !decide (a = b)) && !decide (v = -1)) = false := by
    cases u with
    | false => rfl
    | true =>
      by_cases hab : a = b
      · rw [decide_eq_true hab]; rfl
      · rw [decide_eq_true (r3 rfl hab)]; simp
  simp only [go_sem, Nat.reduceEqDiff, Nat.reduceAdd, Nat.reduceSub, Nat.reduceMul, Nat.reduceLT, Nat.reduceLeDiff, ↓reduceIte, reduceCtorEq, List.reduceReplicate, Int.cast_ofNat_Int, Int.reduceEq, Int.reduceLT, Int.reduceLE, decide_eq_true c2, hbt]
  have E0 : (0 : Int) - -v = v := by omega
  repeat' (first
    | with_reducible refine And.intro ?_ ?_
    | (intros; (try simp only [Bool.and_eq_true, Bool.or_eq_true, Bool.not_eq_true', Bool.not_eq_false', Bool.and_eq_false_iff, Bool.or_eq_false_iff, decide_eq_true_eq, decide_eq_false_iff_not] at *); omega)
    | (apply cl_plain
       case hs => rfl
       case ha => (simp only [List.map_cons, List.map_nil, prepV, prepC, idx, hpL', lookR, Nat.reduceEqDiff, if_true, if_false]; rfl)
       case h => (first | exact m1 .. | exact m2 .. | exact m3 ..))
    | ((first | refine s1_id ?_ | refine swp_id ?_ | refine sops_id ?_ | refine s2_id ?_); simp only [decide_eq_true c2, hbt, E0, E1, E2, go_sem, Nat.reduceEqDiff, Nat.reduceAdd, Nat.reduceSub, Nat.reduceMul, Nat.reduceLT, Nat.reduceLeDiff, ↓reduceIte, reduceCtorEq, List.reduceReplicate, Int.cast_ofNat_Int, Int.reduceEq, Int.reduceLT, Int.reduceLE, SV.ren, SV.renL, Cell.ren, Row.ren, renO, bk, back, outUpsFrom, Ints_ren]))
  clear E1 E2 r2 r3 c3 m1 m2
  refine w_loop (ι := Nat) (fun k => ⟨[(10, .one (.osl 0 0 6 (some 6))), (12, s1 a), (14, s1 b), (15, i1 v), (45, .one (.osl 0 0 6 (some 6))), (46, i1 6), (47, i1 n), (51, .one (.osl 0 0 6 (some 6))), (52, i1 6), (53, i1 j), (86, .one (.osl 0 0 6 (some 6))), (87, i1 6), (88, i1 k)], [(0, some ⟨Strs L, 1⟩)], 1⟩) (fun k => k ≤ 6) (fun k => 6 - k) 0 ?_ (Nat.zero_le _) ?_
  · (refine imp_ren _ _ _ [(0, 0, ⟨Strs L, 1⟩)] (by simp) (by simp) (by simp) (Nat.le_of_ble_eq_true rfl) ?_ rfl (by simp only [List.forall_mem_cons, List.not_mem_nil, false_implies, implies_true, and_true, St.hpF, lookR, Nat.reduceEqDiff, if_true, if_false, ↓reduceIte, hfl] <;> (repeat' apply And.intro) <;> (first | rfl | trivial)) (by simp only [List.forall_mem_cons, List.not_mem_nil, false_implies, implies_true, and_true, true_and, flat_cons, flat_nil, flat_ints, flat_bools, flat_app, Cell.refs, and_self, eq_self_iff_true, List.append_nil, hfl]); simp only [List.map_cons, List.map_nil, List.forall_mem_cons, List.not_mem_nil, false_implies, implies_true, and_true, lk, slot, SV.ren, Cell.ren, toN, Nat.reduceEqDiff, if_true, if_false, ↓reduceIte, reduceCtorEq])
    all_goals ((repeat' apply And.intro) <;> (first | rfl | trivial | (simp only []; done) | (simp only []; rfl) | (simp only []; trivial)));;
  intro k hk
  simp only at hk ⊢
  rcases Nat.lt_or_ge k 6 with hltk | hgek
  case inr =>
    have c4 : ¬ (k : Int) < 6 := by omega
    simp only [go_sem, Nat.reduceEqDiff, Nat.reduceAdd, Nat.reduceSub, Nat.reduceMul, Nat.reduceLT, Nat.reduceLeDiff, ↓reduceIte, reduceCtorEq, List.reduceReplicate, Int.cast_ofNat_Int, Int.reduceEq, Int.reduceLT, Int.reduceLE, decide_eq_false c4]
    repeat' (first
    | with_reducible refine And.intro ?_ ?_
    | (intros; (try simp only [Bool.and_eq_true, Bool.or_eq_true, Bool.not_eq_true', Bool.not_eq_false', Bool.and_eq_false_iff, Bool.or_eq_false_iff, decide_eq_true_eq, decide_eq_false_iff_not] at *); omega)
    | ((first | refine s1_id ?_ | refine swp_id ?_ | refine sops_id ?_ | refine s2_id ?_); simp only [decide_eq_false c4, go_sem, Nat.reduceEqDiff, Nat.reduceAdd, Nat.reduceSub, Nat.reduceMul, Nat.reduceLT, Nat.reduceLeDiff, ↓reduceIte, reduceCtorEq, List.reduceReplicate, Int.cast_ofNat_Int, Int.reduceEq, Int.reduceLT, Int.reduceLE, SV.ren, SV.renL, Cell.ren, Row.ren, renO, bk, back, outUpsFrom, Ints_ren]))
    refine le_mk (j + 1) ?_ (by omega) (by omega)
    (refine imp_ren _ _ _ [(0, 0, ⟨Strs L, 1⟩)] (by simp) (by simp) (by simp) (Nat.le_of_ble_eq_true rfl) ?_ rfl (by simp only [List.forall_mem_cons, List.not_mem_nil, false_implies, implies_true, and_true, St.hpF, lookR, Nat.reduceEqDiff, if_true, if_false, ↓reduceIte, hfl] <;> (repeat' apply And.intro) <;> (first | rfl | trivial)) (by simp only [List.forall_mem_cons, List.not_mem_nil, false_implies, implies_true, and_true, true_and, flat_cons, flat_nil, flat_ints, flat_bools, flat_app, Cell.refs, and_self, eq_self_iff_true, List.append_nil, hfl]); simp only [List.map_cons, List.map_nil, List.forall_mem_cons, List.not_mem_nil, false_implies, implies_true, and_true, lk, slot, SV.ren, Cell.ren, toN, Nat.reduceEqDiff, if_true, if_false, ↓reduceIte, reduceCtorEq])
    all_goals ((repeat' apply And.intro) <;> (first | rfl | trivial | (simp only [Int.natCast_add]; done) | (simp only [Int.natCast_add]; rfl) | (simp only [Int.natCast_add]; trivial)))
  have c4 : (k : Int) < 6 := by omega
  have hct := Strs_getD' L k (.sc (.string (bs []))) (by omega)
  have hlc := e2 _ (getD_mem L k (by omega))
  generalize L.getD k [] = c at *
  have m4 := compare_p b c (by omega) (by omega)
  have m5 := compare_p a c (by omega) (by omega)
  have m6 := under_p a c (by omega) (by omega)
  have r6 := r4 c
  have r7 := r5 c
  clear r4 r5
  generalize pCp b c = p at *
  generalize pCp a c = q at *
  generalize pUn a c = w at *
  have E3 : ((decide (v ≤ 0) && decide (p ≤ 0)) && decide (0 < q)) = false := by
    by_cases h1 : v ≤ 0 <;> by_cases h2 : p ≤ 0 <;> simp only [h1, h2, decide_true, decide_false, Bool.and_true, Bool.true_and, Bool.false_and, Bool.and_false]
    exact decide_eq_false (by have := r6 h1 h2; omega)
  have E4 : (((u && !w) && decide (q < 0)) && decide (0 ≤ p)) = false := by
    cases u <;> cases w <;> try rfl
    by_cases h1 : q < 0
    · have := r7 rfl rfl h1
      rw [decide_eq_false (show ¬ 0 ≤ p by omega), Bool.and_false]
    · rw [decide_eq_false h1]; rfl
  simp only [go_sem, Nat.reduceEqDiff, Nat.reduceAdd, Nat.reduceSub, Nat.reduceMul, Nat.reduceLT, Nat.reduceLeDiff, ↓reduceIte, reduceCtorEq, List.reduceReplicate, Int.cast_ofNat_Int, Int.reduceEq, Int.reduceLT, Int.reduceLE, decide_eq_true c4, hct]
  repeat' (first
    | with_reducible refine And.intro ?_ ?_
    | (intros; (try simp only [Bool.and_eq_true, Bool.or_eq_true, Bool.not_eq_true', Bool.not_eq_false', Bool.and_eq_false_iff, Bool.or_eq_false_iff, decide_eq_true_eq, decide_eq_false_iff_not] at *); omega)
    | (apply cg_any
       case hl => rfl
       case ha => (intro hb; simp only [List.map_cons, List.map_nil, cnd, hb, if_true, prepV, prepC, idx, hpL', lookR, Nat.reduceEqDiff, if_false]; rfl)
       case hs => (intro hb; simp only [cnd, hb, if_true]; rfl)
       case h => (first | exact m3 .. | exact m4 .. | exact m5 .. | exact m6 ..))
    | (apply cl_plain
       case hs => rfl
       case ha => (simp only [List.map_cons, List.map_nil, prepV, prepC, idx, hpL', lookR, Nat.reduceEqDiff, if_true, if_false]; rfl)
       case h => (first | exact m3 .. | exact m4 .. | exact m5 .. | exact m6 ..))
    | ((first | refine s1_id ?_ | refine swp_id ?_ | refine sops_id ?_ | refine s2_id ?_); simp only [decide_eq_true c4, hct, E3, E4, go_sem, Nat.reduceEqDiff, Nat.reduceAdd, Nat.reduceSub, Nat.reduceMul, Nat.reduceLT, Nat.reduceLeDiff, ↓reduceIte, reduceCtorEq, List.reduceReplicate, Int.cast_ofNat_Int, Int.reduceEq, Int.reduceLT, Int.reduceLE, SV.ren, SV.renL, Cell.ren, Row.ren, renO, bk, back, outUpsFrom, Ints_ren]))
  refine le_mk (k + 1) ?_ (by omega) (by omega)
  (refine imp_ren _ _ _ [(0, 0, ⟨Strs L, 1⟩)] (by simp) (by simp) (by simp) (Nat.le_of_ble_eq_true rfl) ?_ rfl (by simp only [List.forall_mem_cons, List.not_mem_nil, false_implies, implies_true, and_true, St.hpF, lookR, Nat.reduceEqDiff, if_true, if_false, ↓reduceIte, hfl] <;> (repeat' apply And.intro) <;> (first | rfl | trivial)) (by simp only [List.forall_mem_cons, List.not_mem_nil, false_implies, implies_true, and_true, true_and, flat_cons, flat_nil, flat_ints, flat_bools, flat_app, Cell.refs, and_self, eq_self_iff_true, List.append_nil, hfl]); simp only [List.map_cons, List.map_nil, List.forall_mem_cons, List.not_mem_nil, false_implies, implies_true, and_true, lk, slot, SV.ren, Cell.ren, toN, Nat.reduceEqDiff, if_true, if_false, ↓reduceIte, reduceCtorEq])
  all_goals ((repeat' apply And.intro) <;> (first | rfl | trivial | (simp only [Int.natCast_add]; done) | (simp only [Int.natCast_add]; rfl) | (simp only [Int.natCast_add]; trivial)))
theorem total_main (g0 : List Cell) (s0 : GTy Tryd.prog 12 9 g0) (z0 : ∀ a : ByteArray, g0 = [.sc (.string a)] → a.size ≤ 140737488351232) (g1 : List Cell) (s1 : GTy Tryd.prog 12 9 g1) (z1 : ∀ a : ByteArray, g1 = [.sc (.string a)] → a.size ≤ 140737488351232) (g2 : List Cell) (s2 : GTy Tryd.prog 12 9 g2) (z2 : ∀ a : ByteArray, g2 = [.sc (.string a)] → a.size ≤ 140737488351232) (g3 : List Cell) (s3 : GTy Tryd.prog 12 31 g3) : FnSpec Tryd.prog 8 [svOf Tryd.prog 9 g0, svOf Tryd.prog 9 g1, svOf Tryd.prog 9 g2, svOf Tryd.prog 31 g3] [] (b1 true) [] := by
  obtain ⟨a, rfl, ha⟩ := gty_str Tryd.underlying9 s0
  obtain ⟨b, rfl, hb⟩ := gty_str Tryd.underlying9 s1
  obtain ⟨c, rfl, hc⟩ := gty_str Tryd.underlying9 s2
  obtain ⟨l, rfl, hl, hr⟩ := gty_ints (n := 10) Tryd.underlying31 Tryd.underlying3 s3
  simp only [svOf, Tryd.underlying9, Tryd.underlying9, Tryd.underlying9, Tryd.underlying31, List.headD_cons]
  have y0 := z0 a rfl
  have y1 := z1 b rfl
  have y2 := z2 c rfl
  rw [bs_of a, bs_size] at y0
  rw [bs_of b, bs_size] at y1
  rw [bs_of c, bs_size] at y2
  rw [bs_of a, bs_of b, bs_of c]
  exact total_spec _ _ _ l y0 y1 y2 hr
end Go.Proofs.YtfkcolodbjonkaaDoor
