/- Contracts of functions, told of values, on the way to ClampJoins (part 6). -/
import Derived.Test.YtnlgboiooabbiaaClampJoinsM3
import Derived.Test.YtnlgboiooabbiaaClampJoinsM5
-- NEWGO
-- PRUNE: cl_lendx cl_use
-- ISG: Cs_isG
-- FLAT: Cs_flat
namespace Go.Proofs.Ytnlgboiooabbiaa
set_option linter.unusedVariables false
set_option linter.unusedSimpArgs false
open Go.Proofs.Ytnlgboiooabbiaa.Sh
set_option maxRecDepth 20000
theorem cpL_max (l : List Nd) (n : Int) (cl : List Cl) : ∀ (gs us : List Int) (m : Int), 0 ≤ m → cpL l n cl gs us m = max m (cpL l n cl gs us 0)
  | g :: gs, u :: us, m, h => by
    rw [cpL, cpL, cpL_max l n cl gs us (max m _) (by omega), cpL_max l n cl gs us (max 0 _) (by omega)]
    omega
  | [], _, m, h => by rw [cpL, cpL]; omega; all_goals (intro _ _ _ _ h; cases h)
  | _ :: _, [], m, h => by rw [cpL, cpL]; omega; all_goals (intro _ _ _ _ _ h; cases h)
theorem cpL_pos (l : List Nd) (n : Int) (cl : List Cl) : ∀ (gs us : List Int) (m : Int), 0 ≤ m → 0 ≤ cpL l n cl gs us m := fun gs us m h => by
  rw [cpL_max l n cl gs us m h]; omega
theorem cpL_app (l : List Nd) (n : Int) (cl : List Cl) (hs vs : List Int) : ∀ (gs us : List Int) (m : Int), gs.length = us.length → cpL l n cl (gs ++ hs) (us ++ vs) m = cpL l n cl hs vs (cpL l n cl gs us m)
  | [], [], m, _ => rfl
  | g :: gs, u :: us, m, h => by
    rw [List.cons_append, List.cons_append, cpL, cpL, cpL_app l n cl hs vs gs us _ (Nat.succ.inj h)]
  | [], _ :: _, _, h => by cases h
  | _ :: _, [], _, h => by cases h
theorem caM_app (l : List Nd) (n : Int) (cl : List Cl) (gs us hs vs : List Int) (h1 : gs.length = us.length) (h2 : hs.length = vs.length) : caM l n cl (gs ++ hs) (us ++ vs) = max (caM l n cl gs us) (caM l n cl hs vs) := by
  unfold caM
  rw [if_pos (by simp [h1, h2]), if_pos h1, if_pos h2, cpL_app l n cl hs vs gs us 0 h1, cpL_max l n cl hs vs _ (cpL_pos l n cl gs us 0 (Int.le_refl _))]
set_option maxHeartbeats 16000000 in
theorem joins_spec (L : List Int) (hr : ∀ x ∈ L, -9223372036854775808 ≤ x ∧ x ≤ 9223372036854775807) : FnSpec Try.prog 5 [gi L none] [] (b1 true) [] := by
  by_cases hlen : (L.length : Int) ≤ 600
  case neg =>
    refine fnspec_of mixed TT_ok TT_cl ⟨fun _ => false, lendB, 0, fun _ => false, fun _ => false⟩ Try.func5 rfl (by kernel_rfl) rfl 107 rfl [.tmp 2] rfl ?_
    simp only [go_sem, Nat.reduceEqDiff, Nat.reduceAdd, Nat.reduceSub, Nat.reduceMul, Nat.reduceLT, Nat.reduceLeDiff, ↓reduceIte, reduceCtorEq, List.reduceReplicate, Int.cast_ofNat_Int, Int.reduceEq, Int.reduceLT, Int.reduceLE, decide_eq_false hlen, lendB]
    repeat' (first
    | (apply cl_plain
       case hs => rfl
       case ha => (simp only [List.map_cons, List.map_nil, prepV, prepC, idx, hpL', lookR, Nat.reduceEqDiff, if_true, if_false]; rfl)
       case h => (first | exact light_spec .. | exact sane_spec ..))
    | ((first | refine s1_id ?_ | refine swp_id ?_ | refine sops_id ?_ | refine s2_id ?_); simp only [decide_eq_false hlen, lendB, go_sem, Nat.reduceEqDiff, Nat.reduceAdd, Nat.reduceSub, Nat.reduceMul, Nat.reduceLT, Nat.reduceLeDiff, ↓reduceIte, reduceCtorEq, List.reduceReplicate, Int.cast_ofNat_Int, Int.reduceEq, Int.reduceLT, Int.reduceLE, SV.ren, SV.renL, Cell.ren, Row.ren, renO, bk, back, outUpsFrom, Ints_ren])
    | (apply fs_nil <;> (try simp only [go_sem, resV, resS, SV.ren, SV.renL, Cell.ren, St.tmF, St.hpF, idx, renO, Row.ren, evS, slot, lookR, Nat.reduceEqDiff, ↓reduceIte, reduceCtorEq, if_true, if_false, Option.getD_some, Option.getD_none, List.map_cons, List.map_nil, sLoad, readAt, readNeed, Ints_ren, Ints_length, Ints_getD, and_true, true_and, List.getD_cons_zero, List.getD_cons_succ]) <;> (try rfl)))
  have hl : L.length ≤ 600 := by omega
  have t1 := tree_spec L hl hr 0 7 (by decide)
  have hti := mkT_ok L 0 7
  generalize mkT L 0 7 = T at *
  obtain ⟨⟨l, n⟩, j⟩ := T
  simp only at t1 hti
  have hV := hti.v.vt
  have hle := hti.len
  have c1 := clamps_spec L hl hr j l n hle.2
  have hC := cpF_vc L hV j
  generalize cpF L l j = q at *
  obtain ⟨C, J⟩ := q
  simp only at c1 hC
  have hCl := hC.len
  have hnl := nd_len l
  have f1 := fun gs us k1 k2 hg => ccap_spec l n C none gs us k1 k2 (by omega) (by omega) hg hti.nr hV.ct
  have n0 := next_spec L J 5 hl hr (by decide)
  have r0 := nx_rng L J 5 (by decide)
  obtain ⟨c0, hc0, hc1⟩ : ∃ c : Nat, nxV L J 5 = c ∧ c ≤ 4 := ⟨(nxV L J 5).toNat, by omega, by omega⟩
  rw [hc0] at n0
  refine fnspec_of mixed TT_ok TT_cl ⟨fun _ => false, lendB, 0, fun _ => false, fun _ => false⟩ Try.func5 rfl (by kernel_rfl) rfl 107 rfl [.tmp 2] rfl ?_
  simp only [go_sem, Nat.reduceEqDiff, Nat.reduceAdd, Nat.reduceSub, Nat.reduceMul, Nat.reduceLT, Nat.reduceLeDiff, ↓reduceIte, reduceCtorEq, List.reduceReplicate, Int.cast_ofNat_Int, Int.reduceEq, Int.reduceLT, Int.reduceLE, decide_eq_true hlen, lendB]
  repeat' (first
    | (apply cl_plain
       case hs => rfl
       case ha => (simp only [List.map_cons, List.map_nil, prepV, prepC, idx, hpL', lookR, Nat.reduceEqDiff, if_true, if_false]; rfl)
       case h => (first | exact light_spec .. | exact roll_spec .. | exact t1 .. | exact c1 .. | exact n0 ..))
    | (apply cl_lend
       case hr => (simp only [List.map_cons, List.map_nil, hpL', lookR, Nat.reduceEqDiff, if_true, if_false]; first | exact map1 _ | exact map2 _ _ | exact map3 _ _ _)
       case ha => (simp only [List.map_cons, List.map_nil, prepV, prepC, idx, hpL', lookR, Nat.reduceEqDiff, if_true, if_false]; rfl)
       case hs => rfl
       case hn => decide
       case h => (first | exact light_spec .. | exact roll_spec .. | exact t1 .. | exact c1 .. | exact n0 ..)
       case hf => (simp only [List.forall_mem_cons, List.not_mem_nil, false_implies, implies_true, and_true, true_and, flat_cons, flat_nil, flat_ints, flat_bools, flat_app, Cs_flat, Cell.refs, and_self, eq_self_iff_true, List.append_nil])
       case hl => (simp only [List.length_cons, List.length_nil]; decide))
    | ((first | refine s1_id ?_ | refine swp_id ?_ | refine sops_id ?_ | refine s2_id ?_); simp only [decide_eq_true hlen, lendB, dice, go_sem, Nat.reduceEqDiff, Nat.reduceAdd, Nat.reduceSub, Nat.reduceMul, Nat.reduceLT, Nat.reduceLeDiff, ↓reduceIte, reduceCtorEq, List.reduceReplicate, Int.cast_ofNat_Int, Int.reduceEq, Int.reduceLT, Int.reduceLE, SV.ren, SV.renL, Cell.ren, Row.ren, renO, bk, back, outUpsFrom, Ints_ren]))
  refine w_loop (ι := Nat × List Int × List Int × List Int × List Int × Nat) (fun s => ⟨[(3, .one (.optr 0 0)), (4, .one (.optr 1 0)), (5, gr C none), (6, .one (.osl 2 0 s.2.1.length none)), (7, .one (.osl 3 0 s.2.2.1.length none)), (8, .one (.osl 4 0 s.2.2.2.1.length none)), (9, .one (.osl 5 0 s.2.2.2.2.1.length none)), (10, i1 s.1)], [(0, some (dice L s.2.2.2.2.2)), (1, some ⟨[.gsl (Cs l) 0 l.length none, int n], 2⟩), (2, some ⟨Ints s.2.1, 1⟩), (3, some ⟨Ints s.2.2.1, 1⟩), (4, some ⟨Ints s.2.2.2.1, 1⟩), (5, some ⟨Ints s.2.2.2.2.1, 1⟩)], 6⟩) (fun s => s.2.1.length = s.2.2.1.length ∧ s.2.2.2.1.length = s.2.2.2.2.1.length ∧ s.2.1.length + s.1 ≤ 4 ∧ s.2.2.2.1.length + s.1 ≤ 4) (fun s => s.1) (c0, [], [], [], [], nxA L J 5) ?_ ⟨rfl, rfl, by simpa using hc1, by simpa using hc1⟩ ?_
  · (refine Imp.trans (imp_nilA _ _ 6 1 96 (by simp only []; omega) rfl) ?_)
    (refine Imp.trans (imp_nilA _ _ 7 1 97 (by simp only []; omega) rfl) ?_)
    (refine Imp.trans (imp_nilA _ _ 8 1 98 (by simp only []; omega) rfl) ?_)
    (refine Imp.trans (imp_nilA _ _ 9 1 99 (by simp only []; omega) rfl) ?_)
    (refine imp_ren _ _ _ [(0, 5, dice L (nxA L J 5)), (1, 9, ⟨[.gsl (Cs l) 0 l.length none, int n], 2⟩), (2, 96, ⟨[], 1⟩), (3, 97, ⟨[], 1⟩), (4, 98, ⟨[], 1⟩), (5, 99, ⟨[], 1⟩)] (by simp) (by simp) (by simp) (Nat.le_of_ble_eq_true rfl) ?_ rfl (by simp only [List.forall_mem_cons, List.not_mem_nil, false_implies, implies_true, and_true, St.hpF, lookR, Nat.reduceEqDiff, if_true, if_false, ↓reduceIte, dice] <;> (repeat' apply And.intro) <;> (first | rfl | trivial)) (by simp only [List.forall_mem_cons, List.not_mem_nil, false_implies, implies_true, and_true, true_and, flat_cons, flat_nil, flat_ints, flat_bools, flat_app, Cell.refs, and_self, eq_self_iff_true, List.append_nil, dice]); simp only [List.map_cons, List.map_nil, List.forall_mem_cons, List.not_mem_nil, false_implies, implies_true, and_true, lk, slot, SV.ren, Cell.ren, toN, Nat.reduceEqDiff, if_true, if_false, ↓reduceIte, reduceCtorEq])
    all_goals ((repeat' apply And.intro) <;> (first | rfl | trivial))
  clear c1 t1 n0 r0 hc0 hc1
  rintro ⟨m, g, u, h, v, i⟩ ⟨hgu, hhv, hg, hh⟩
  simp only at hgu hhv hg hh ⊢
  cases m with
  | zero =>
    have a1 := f1 g u none none (by omega)
    have a2 := f1 h v none none (by omega)
    have a3 := f1 (g ++ h) (u ++ v) none none (by rw [List.length_append]; omega)
    have a4 := f1 (h ++ g) (v ++ u) none none (by rw [List.length_append]; omega)
    rw [caM_app l n C g u h v hgu hhv] at a3
    rw [caM_app l n C h v g u hhv hgu] at a4
    have a5 : FnSpec Try.prog 24 [trV l none n, gr C none, .one (.sc (.slice none 0 0)), .one (.sc (.slice none 0 0))] [] (i1 0) [] := (f1 [] [] none none (by decide)).pre (by simp only [gi, Ints, List.map_nil, swl_cons, swl_nil, sw_agg, sw_one, cwl_cons, cwl_nil, cw_id, cw_nil0, List.length_nil, and_self])
    generalize caM l n C g u = A at *
    generalize caM l n C h v = B at *
    have mc : max B A = max A B := by omega
    rw [mc] at a4
    simp only [gi, List.length_append] at a3 a4
    simp only [go_sem, Nat.reduceEqDiff, Nat.reduceAdd, Nat.reduceSub, Nat.reduceMul, Nat.reduceLT, Nat.reduceLeDiff, ↓reduceIte, reduceCtorEq, List.reduceReplicate, Int.cast_ofNat_Int, Int.reduceEq, Int.reduceLT, Int.reduceLE, lendB]
    repeat' (first
    | with_reducible refine And.intro ?_ ?_
    | (unfold OKC; kernel_rfl)
    | (unfold EDG; kernel_rfl)
    | (intros; (try simp only [Bool.and_eq_true, Bool.or_eq_true, Bool.not_eq_true', Bool.not_eq_false', Bool.and_eq_false_iff, Bool.or_eq_false_iff, decide_eq_true_eq, decide_eq_false_iff_not] at *); omega)
    | (apply cg_tp
       case hl => rfl
       case ha => (simp only [List.map_cons, List.map_nil, prepV, prepC, idx, hpL', lookR, Nat.reduceEqDiff, if_true, if_false]; rfl)
       case hs => rfl
       case h => (first | exact a1 .. | exact a2 .. | exact a3 .. | exact a4 .. | exact a5 .. | exact sane_spec ..))
    | (apply cl_show
       case ha => (simp only [List.map_cons, List.map_nil, prepV, prepC, idx, hpL', lookR, Nat.reduceEqDiff, if_true, if_false]; rfl)
       case hs => ((simp [snaps, SV.refs, Cell.refs, idx, hpL', lookR]) <;> (repeat' apply And.intro) <;> (first | exact Ints_isG _ | exact Cs_isG _))
       case h => (first | exact a1 .. | exact a2 .. | exact a3 .. | exact a4 .. | exact a5 .. | exact sane_spec ..)
       case hg => ((simp [SV.noG, SV.noGL, Cell.noG]) <;> (repeat' apply And.intro) <;> exact Ints_noG _))
    | ((first | refine s1_id ?_ | refine swp_id ?_ | refine sops_id ?_ | refine s2_id ?_); simp only [lendB, if_max, Ints_app, List.flatten_cons, List.flatten_nil, List.append_nil, List.cons_append, List.nil_append, List.set_cons_zero, List.set_cons_succ, List.take_succ_cons, List.take_zero, List.take_nil, List.length_cons, List.length_nil, go_sem, Nat.reduceEqDiff, Nat.reduceAdd, Nat.reduceSub, Nat.reduceMul, Nat.reduceLT, Nat.reduceLeDiff, ↓reduceIte, reduceCtorEq, List.reduceReplicate, Int.cast_ofNat_Int, Int.reduceEq, Int.reduceLT, Int.reduceLE, SV.ren, SV.renL, Cell.ren, Row.ren, renO, bk, back, outUpsFrom, Ints_ren])
    | (apply fs_nil <;> (try simp only [go_sem, resV, resS, SV.ren, SV.renL, Cell.ren, St.tmF, St.hpF, idx, renO, Row.ren, evS, slot, lookR, Nat.reduceEqDiff, ↓reduceIte, reduceCtorEq, if_true, if_false, Option.getD_some, Option.getD_none, List.map_cons, List.map_nil, sLoad, readAt, readNeed, Ints_ren, Ints_length, Ints_getD, and_true, true_and, List.getD_cons_zero, List.getD_cons_succ]) <;> (try rfl)))
  | succ m =>
    have c : (0 : Int) < ((m + 1 : Nat) : Int) := by omega
    have e2 : ((m + 1 : Nat) : Int) - 1 = (m : Int) := by omega
    have g1 := group_spec L hl hr i l n hle.1 hle.2
    have n1 := next_spec L (grA L l i) 12000 hl hr (by decide)
    have r1 := nx_rng L (grA L l i) 12000 (by decide)
    have g2 := group_spec L hl hr (nxA L (grA L l i) 12000) l n hle.1 hle.2
    have n2 := next_spec L (grA L l (nxA L (grA L l i) 12000)) 12000 hl hr (by decide)
    have r2 := nx_rng L (grA L l (nxA L (grA L l i) 12000)) 12000 (by decide)
    generalize nxA L (grA L l (nxA L (grA L l i) 12000)) 12000 = j4 at *
    generalize nxV L (grA L l (nxA L (grA L l i) 12000)) 12000 = y2 at *
    generalize grA L l (nxA L (grA L l i) 12000) = j3 at *
    generalize grV L l (nxA L (grA L l i) 12000) = x2 at *
    generalize nxA L (grA L l i) 12000 = j2 at *
    generalize nxV L (grA L l i) 12000 = y1 at *
    generalize grA L l i = j1 at *
    generalize grV L l i = x1 at *
    have tk : ∀ K : List Int, List.take K.length (Ints K) = Ints K := fun K => List.take_of_length_le (by rw [Ints_length]; exact Nat.le_refl _)
    have p1 : Ints g ++ [int x1] = Ints (g ++ [x1]) := by simp [Ints]
    have p2 : Ints u ++ [int (y1 - 1000)] = Ints (u ++ [y1 - 1000]) := by simp [Ints]
    have p3 : Ints h ++ [int x2] = Ints (h ++ [x2]) := by simp [Ints]
    have p4 : Ints v ++ [int (y2 - 1000)] = Ints (v ++ [y2 - 1000]) := by simp [Ints]
    have la : ∀ (K : List Int) (x : Int), (K ++ [x]).length = K.length + 1 := fun K x => by simp
    simp only [go_sem, Nat.reduceEqDiff, Nat.reduceAdd, Nat.reduceSub, Nat.reduceMul, Nat.reduceLT, Nat.reduceLeDiff, ↓reduceIte, reduceCtorEq, List.reduceReplicate, Int.cast_ofNat_Int, Int.reduceEq, Int.reduceLT, Int.reduceLE, decide_eq_true c, e2, lendB]
    repeat' (first
    | with_reducible refine And.intro ?_ ?_
    | (intros; (try simp only [Bool.and_eq_true, Bool.or_eq_true, Bool.not_eq_true', Bool.not_eq_false', Bool.and_eq_false_iff, Bool.or_eq_false_iff, decide_eq_true_eq, decide_eq_false_iff_not] at *); omega)
    | (apply cl_lend
       case hr => (simp only [List.map_cons, List.map_nil, hpL', lookR, Nat.reduceEqDiff, if_true, if_false]; first | exact map1 _ | exact map2 _ _ | exact map3 _ _ _)
       case ha => (simp only [List.map_cons, List.map_nil, prepV, prepC, idx, hpL', lookR, Nat.reduceEqDiff, if_true, if_false]; rfl)
       case hs => rfl
       case hn => decide
       case h => (first | exact g1 .. | exact n1 .. | exact g2 .. | exact n2 ..)
       case hf => (simp only [List.forall_mem_cons, List.not_mem_nil, false_implies, implies_true, and_true, true_and, flat_cons, flat_nil, flat_ints, flat_bools, flat_app, Cs_flat, Cell.refs, and_self, eq_self_iff_true, List.append_nil])
       case hl => (simp only [List.length_cons, List.length_nil]; decide))
    | ((first | refine s1_id ?_ | refine swp_id ?_ | refine sops_id ?_ | refine s2_id ?_); simp only [decide_eq_true c, e2, lendB, dice, tk, p1, p2, p3, p4, List.flatten_cons, List.flatten_nil, List.append_nil, List.cons_append, List.nil_append, List.set_cons_zero, List.set_cons_succ, List.take_succ_cons, List.take_zero, List.take_nil, List.length_cons, List.length_nil, go_sem, Nat.reduceEqDiff, Nat.reduceAdd, Nat.reduceSub, Nat.reduceMul, Nat.reduceLT, Nat.reduceLeDiff, ↓reduceIte, reduceCtorEq, List.reduceReplicate, Int.cast_ofNat_Int, Int.reduceEq, Int.reduceLT, Int.reduceLE, SV.ren, SV.renL, Cell.ren, Row.ren, renO, bk, back, outUpsFrom, Ints_ren]))
    refine le_mk (m, g ++ [x1], u ++ [y1 - 1000], h ++ [x2], v ++ [y2 - 1000], j4) ?_ ⟨by rw [la, la, hgu], by rw [la, la, hhv], by rw [la]; omega, by rw [la]; omega⟩ (Nat.lt_succ_self m)
    simp only [la]
    (refine imp_ren _ _ _ [(0, 0, dice L j4), (1, 1, ⟨[.gsl (Cs l) 0 l.length none, int n], 2⟩), (2, 13, ⟨Ints (g ++ [x1]), 1⟩), (3, 19, ⟨Ints (u ++ [y1 - 1000]), 1⟩), (4, 27, ⟨Ints (h ++ [x2]), 1⟩), (5, 33, ⟨Ints (v ++ [y2 - 1000]), 1⟩)] (by simp) (by simp) (by simp) (Nat.le_of_ble_eq_true rfl) ?_ rfl (by simp only [List.forall_mem_cons, List.not_mem_nil, false_implies, implies_true, and_true, St.hpF, lookR, Nat.reduceEqDiff, if_true, if_false, ↓reduceIte, dice] <;> (repeat' apply And.intro) <;> (first | rfl | trivial)) (by simp only [List.forall_mem_cons, List.not_mem_nil, false_implies, implies_true, and_true, true_and, flat_cons, flat_nil, flat_ints, flat_bools, flat_app, Cell.refs, and_self, eq_self_iff_true, List.append_nil, dice]); simp only [List.map_cons, List.map_nil, List.forall_mem_cons, List.not_mem_nil, false_implies, implies_true, and_true, lk, slot, SV.ren, Cell.ren, toN, Nat.reduceEqDiff, if_true, if_false, ↓reduceIte, reduceCtorEq])
    all_goals ((repeat' apply And.intro) <;> (first | rfl | trivial | (simp only []; done) | (simp only []; rfl) | (simp only []; trivial)))
theorem joins_main (g0 : List Cell) (s0 : GTy Try.prog 12 36 g0) : FnSpec Try.prog 5 [svOf Try.prog 36 g0] [] (b1 true) [] := by
  obtain ⟨l, rfl, hl, hr⟩ := gty_ints (n := 10) Try.underlying36 Try.underlying3 s0
  simp only [svOf, Try.underlying36, List.headD_cons]
  exact joins_spec l hr
end Go.Proofs.Ytnlgboiooabbiaa
