/- Contracts of functions, told of values, on the way to BandwidthSteps. -/
import Derived.Test.YtlaplcjenndigaaTyBa
import Derived.Test.YtlaplcjenndigaaBwhBa
-- NEWGO
-- PRUNE: cl_use cl_lendx cg_ts cg_show cl_show
namespace Go.Proofs.Ytlaplcjenndigaa
set_option linter.unusedVariables false
set_option linter.unusedSimpArgs false
open Go.Proofs.Ytlaplcjenndigaa.Sh Go.RowKit
set_option maxRecDepth 20000
theorem pz_len : pz.c.length = 0 := rfl
theorem ptake_len (x : Pl) (c : Int) (h : x.c.length ≤ 1000) : (ptake x c).1.c.length ≤ 1000 := by
  unfold ptake; repeat' split
  all_goals first | (rw [pz_len]; omega) | (simp only [ptk, pmv, List.length_set]; omega)
theorem preturn_len (x : Pl) (c : Int) (h : x.c.length ≤ 1000) : (preturn x c).1.c.length ≤ 1000 := by
  unfold preturn; repeat' split
  all_goals first | (rw [pz_len]; omega) | (simp only [pret, List.length_set]; omega)
theorem pspend_len (x : Pl) (c : Int) (h : x.c.length ≤ 1000) : (pspend x c).1.c.length ≤ 1000 := by
  unfold pspend; repeat' split
  all_goals first | (rw [pz_len]; omega) | (simp only [pemp, pdec, ptk, pmv, List.length_set]; omega)
theorem prefill_len (x : Pl) (h : x.c.length ≤ 1000) : (prefill x).1.c.length ≤ 1000 := by
  unfold prefill; repeat' split
  all_goals first | (rw [pz_len]; omega) | (simp only [pfil]; omega)
theorem pchange_len (x : Pl) (q b : Int) (h : x.c.length ≤ 1000) : (pchange x q b).1.c.length ≤ 1000 := by
  unfold pchange; repeat' split
  all_goals first | (rw [pz_len]; omega) | (simp only [pchg, lsN_len]; omega)
theorem pnew_len (g q b s n : Int) : (pnew g q b s n).1.c.length ≤ 1000 := by
  unfold pnew
  split
  · rw [pz_len]; omega
  · rename_i h
    rw [Bool.not_eq_false, wi_iff] at h
    split
    · rw [pz_len]; omega
    · simp only [pn0, List.length_replicate]; omega
def lends2 (f : Nat) : List Nat := if f = 20 then [0] else if f = 37 then [0] else if f = 12 then [0] else if f = 22 then [0] else []
set_option maxHeartbeats 8000000 in
theorem steps_spec (l : List Int) (cpu quota burst : Int) (hl : ∀ x ∈ l, -9223372036854775808 ≤ x ∧ x ≤ 9223372036854775807) (hb : -9223372036854775808 ≤ burst ∧ burst ≤ 9223372036854775807) : FnSpec Try.prog 5 [gi l none, i1 cpu, i1 quota, i1 burst] [] (b1 true) [] := by
  by_cases hlen : (l.length : Int) ≤ 600
  case neg =>
    refine fnspec_of mixed TT_ok TT_cl ⟨fun _ => false, fun _ => [], 0, fun _ => false, fun _ => false⟩ Try.func5 rfl (by kernel_rfl) rfl 288 rfl [.tmp 8] rfl ?_
    simp only [go_sem, Nat.reduceEqDiff, Nat.reduceAdd, Nat.reduceSub, Nat.reduceMul, Nat.reduceLT, Nat.reduceLeDiff, ↓reduceIte, reduceCtorEq, List.reduceReplicate, Int.cast_ofNat_Int, Int.reduceEq, Int.reduceLT, Int.reduceLE]
    repeat' (first
    | with_reducible refine And.intro ?_ ?_
    | (unfold OKC; kernel_rfl)
    | (apply okc_up <;> (first | ((repeat (first | exact Sub.nil | apply Sub.gfp | apply Sub.same)); done) | kernel_rfl))
    | (unfold EDG; kernel_rfl)
    | (intros; (try simp only [Bool.and_eq_true, Bool.or_eq_true, Bool.not_eq_true', Bool.not_eq_false', Bool.and_eq_false_iff, Bool.or_eq_false_iff, decide_eq_true_eq, decide_eq_false_iff_not] at *); omega)
    | (refine gt_if (fun h => ?_) (fun h => ?_) <;> (try simp only [h]))
    | (refine pt_if (fun h => ?_) (fun h => ?_) <;> (try simp only [h]))
    | (refine cd_if (fun h => ?_) (fun h => ?_) <;> (try simp only [h]))
    | (apply cg_tp
       case hl => rfl
       case ha => (simp only [List.map_cons, List.map_nil, prepV, prepC, idx, hpL', lookR, Nat.reduceEqDiff, if_true, if_false]; rfl)
       case hs => rfl
       case h => (first | exact light_spec .. | exact sane_spec ..))
    | (apply cg_any
       case hl => rfl
       case ha => (intro hb; simp only [List.map_cons, List.map_nil, cnd, hb, if_true, prepV, prepC, idx, hpL', lookR, Nat.reduceEqDiff, if_false]; rfl)
       case hs => (intro hb; simp only [cnd, hb, if_true]; rfl)
       case h => (first | exact light_spec .. | exact sane_spec ..))
    | (apply cl_plain
       case hs => rfl
       case ha => (simp only [List.map_cons, List.map_nil, prepV, prepC, idx, hpL', lookR, Nat.reduceEqDiff, if_true, if_false]; rfl)
       case h => (first | exact light_spec .. | exact sane_spec ..))
    | (apply cl_lend
       case hr => (simp only [List.map_cons, List.map_nil, hpL', lookR, Nat.reduceEqDiff, if_true, if_false]; first | exact map1 _ | exact map2 _ _ | exact map3 _ _ _)
       case ha => (simp only [List.map_cons, List.map_nil, prepV, prepC, idx, hpL', lookR, Nat.reduceEqDiff, if_true, if_false]; rfl)
       case hs => rfl
       case hn => decide
       case h => (first | exact light_spec .. | exact sane_spec ..)
       case hf => (simp only [List.forall_mem_cons, List.not_mem_nil, false_implies, implies_true, and_true, true_and, flat_cons, flat_nil, flat_ints, flat_bools, flat_app, Cell.refs, and_self, eq_self_iff_true, List.append_nil])
       case hl => (simp only [List.length_cons, List.length_nil]; decide))
    | ((first | refine s1_id ?_ | refine swp_id ?_ | refine sops_id ?_ | refine s2_id ?_); simp only [decide_eq_false hlen, go_sem, Nat.reduceEqDiff, Nat.reduceAdd, Nat.reduceSub, Nat.reduceMul, Nat.reduceLT, Nat.reduceLeDiff, ↓reduceIte, reduceCtorEq, List.reduceReplicate, Int.cast_ofNat_Int, Int.reduceEq, Int.reduceLT, Int.reduceLE, SV.ren, SV.renL, Cell.ren, Row.ren, renO, bk, back, outUpsFrom, Ints_ren])
    | (apply fs_nil <;> (try simp only [go_sem, resV, resS, SV.ren, SV.renL, Cell.ren, St.tmF, St.hpF, idx, renO, Row.ren, evS, slot, lookR, Nat.reduceEqDiff, ↓reduceIte, reduceCtorEq, if_true, if_false, Option.getD_some, Option.getD_none, List.map_cons, List.map_nil, sLoad, readAt, readNeed, Ints_ren, Ints_length, Ints_getD, and_true, true_and, List.getD_cons_zero, List.getD_cons_succ]) <;> (try rfl)))
  have hl6 : l.length ≤ 600 := by omega
  have hx := mkP_ok l 0 12 (by omega)
  have hpo := pool_spec l 0 12 hl6 hl (by omega)
  generalize (mkP l 0 12).1 = x0 at *
  generalize (mkP l 0 12).2 = j0 at *
  have o0 := od_of hx.ok
  have o1 := od_ok l j0 o0
  have hd1 := odd_spec l x0 j0 hl6 hl o0.wk.len
  generalize hx1 : (od l x0 j0).1 = x1 at *
  generalize hj1 : (od l x0 j0).2 = j1 at *
  have o2 := od_ok l j1 o0
  have hd2 := odd_spec l x0 j1 hl6 hl o0.wk.len
  generalize hx2 : (od l x0 j1).1 = x2 at *
  generalize hj2 : (od l x0 j1).2 = j2 at *
  have o3 := od_ok l j2 o2
  have hd3 := odd_spec l x2 j2 hl6 hl o2.wk.len
  generalize hx3 : (od l x2 j2).1 = x3 at *
  generalize hj3 : (od l x2 j2).2 = j3 at *
  refine fnspec_of mixed TT_ok TT_cl ⟨fun _ => false, lends2, 0, fun _ => false, fun _ => false⟩ Try.func5 rfl (by kernel_rfl) rfl 288 rfl [.tmp 8] rfl ?_
  simp only [go_sem, Nat.reduceEqDiff, Nat.reduceAdd, Nat.reduceSub, Nat.reduceMul, Nat.reduceLT, Nat.reduceLeDiff, ↓reduceIte, reduceCtorEq, List.reduceReplicate, Int.cast_ofNat_Int, Int.reduceEq, Int.reduceLT, Int.reduceLE, lends2]
  repeat' (first
    | with_reducible refine And.intro ?_ ?_
    | (unfold OKC; kernel_rfl)
    | (apply okc_up <;> (first | ((repeat (first | exact Sub.nil | apply Sub.gfp | apply Sub.same)); done) | kernel_rfl))
    | (unfold EDG; kernel_rfl)
    | (intros; (try simp only [Bool.and_eq_true, Bool.or_eq_true, Bool.not_eq_true', Bool.not_eq_false', Bool.and_eq_false_iff, Bool.or_eq_false_iff, decide_eq_true_eq, decide_eq_false_iff_not] at *); omega)
    | (refine gt_if (fun h => ?_) (fun h => ?_) <;> (try simp only [h]))
    | (refine pt_if (fun h => ?_) (fun h => ?_) <;> (try simp only [h]))
    | (refine cd_if (fun h => ?_) (fun h => ?_) <;> (try simp only [h]))
    | (apply cg_tp
       case hl => rfl
       case ha => (simp only [List.map_cons, List.map_nil, prepV, prepC, idx, hpL', lookR, Nat.reduceEqDiff, if_true, if_false]; rfl)
       case hs => rfl
       case h => (first | exact light_spec .. | exact roll_spec .. | exact hpo .. | exact hd1 .. | exact hd2 .. | exact hd3 .. | exact sane_spec ..))
    | (apply cg_any
       case hl => rfl
       case ha => (intro hb; simp only [List.map_cons, List.map_nil, cnd, hb, if_true, prepV, prepC, idx, hpL', lookR, Nat.reduceEqDiff, if_false]; rfl)
       case hs => (intro hb; simp only [cnd, hb, if_true]; rfl)
       case h => (first | exact light_spec .. | exact roll_spec .. | exact hpo .. | exact hd1 .. | exact hd2 .. | exact hd3 .. | exact sane_spec ..))
    | (apply cl_plain
       case hs => rfl
       case ha => (simp only [List.map_cons, List.map_nil, prepV, prepC, idx, hpL', lookR, Nat.reduceEqDiff, if_true, if_false]; rfl)
       case h => (first | exact light_spec .. | exact roll_spec .. | exact hpo .. | exact hd1 .. | exact hd2 .. | exact hd3 .. | exact sane_spec ..))
    | (apply cl_lend
       case hr => (simp only [List.map_cons, List.map_nil, hpL', lookR, Nat.reduceEqDiff, if_true, if_false]; first | exact map1 _ | exact map2 _ _ | exact map3 _ _ _)
       case ha => (simp only [List.map_cons, List.map_nil, prepV, prepC, idx, hpL', lookR, Nat.reduceEqDiff, if_true, if_false]; rfl)
       case hs => rfl
       case hn => decide
       case h => (first | exact light_spec .. | exact roll_spec .. | exact hpo .. | exact hd1 .. | exact hd2 .. | exact hd3 .. | exact sane_spec ..)
       case hf => (simp only [List.forall_mem_cons, List.not_mem_nil, false_implies, implies_true, and_true, true_and, flat_cons, flat_nil, flat_ints, flat_bools, flat_app, Cell.refs, and_self, eq_self_iff_true, List.append_nil])
       case hl => (simp only [List.length_cons, List.length_nil]; decide))
    | ((first | refine s1_id ?_ | refine swp_id ?_ | refine sops_id ?_ | refine s2_id ?_); simp only [decide_eq_true hlen, lends2, plt, plc, List.flatten_cons, List.flatten_nil, List.cons_append, List.nil_append, List.append_nil, List.set_cons_zero, List.set_cons_succ, List.length_cons, List.length_nil, go_sem, Nat.reduceEqDiff, Nat.reduceAdd, Nat.reduceSub, Nat.reduceMul, Nat.reduceLT, Nat.reduceLeDiff, ↓reduceIte, reduceCtorEq, List.reduceReplicate, Int.cast_ofNat_Int, Int.reduceEq, Int.reduceLT, Int.reduceLE, SV.ren, SV.renL, Cell.ren, Row.ren, renO, bk, back, outUpsFrom, Ints_ren]))
  obtain ⟨G, hG⟩ : ∃ G : List Cell, G = plc x0 none ++ plc x1 none ++ plc x3 none := ⟨_, rfl⟩
  have hGf : flat G := by rw [hG]; simp only [flat, List.cons_append, List.nil_append, List.forall_mem_cons, List.not_mem_nil, false_implies, implies_true, and_true, Cell.refs]
  have hGl : G.length = 30 := by rw [hG]; rfl
  obtain ⟨X, hX⟩ : ∃ X : Nat → Pl, X = fun q => if q = 0 then x0 else if q = 1 then x1 else x3 := ⟨_, rfl⟩
  have hGq : ∀ q : Nat, q < 3 → (G.drop (q * 10)).take 10 = plc (X q) none := by
    intro q hq
    rw [hG, hX]
    match q, hq with
    | 0, _ => rfl
    | 1, _ => rfl
    | 2, _ => rfl
  have hXo : ∀ q, Od (X q) := by
    intro q; rw [hX]; simp only
    split
    · exact o0
    · split
      · exact o1
      · exact o3
  have hG' : plc x0 none ++ plc x1 none ++ plc x3 none = G := hG.symm
  clear hX hd1 hd2 hd3 hpo hx hx1 hx2 hx3 hj1 hj2 hj3
  refine w_loop (ι := Nat × Nat) (fun s => ⟨[(1, i1 cpu), (2, i1 quota), (3, i1 burst), (9, dp), (53, .one (.osl 1 0 3 (some 3))), (54, i1 3), (55, i1 s.1)], [(0, some (dice l s.2)), (1, some ⟨G, 10⟩)], 2⟩)
    (fun s => s.1 ≤ 3) (fun s => 3 - s.1) (0, j3) ?_ (Nat.zero_le _) ?_
  · (refine imp_ren _ _ _ [(0, 5, dice l j3), (1, 20, ⟨G, 10⟩)] (by simp) (by simp) (by simp) (Nat.le_of_ble_eq_true rfl) ?_ rfl (by simp only [List.forall_mem_cons, List.not_mem_nil, false_implies, implies_true, and_true, St.hpF, lookR, Nat.reduceEqDiff, if_true, if_false, ↓reduceIte, hG, plc, List.cons_append, List.nil_append] <;> (repeat' apply And.intro) <;> (first | rfl | trivial)) (by simp only [List.forall_mem_cons, List.not_mem_nil, false_implies, implies_true, and_true, true_and, flat_cons, flat_nil, flat_ints, flat_bools, flat_app, Cell.refs, and_self, eq_self_iff_true, List.append_nil, hG, plc, List.cons_append, List.nil_append]); simp only [List.map_cons, List.map_nil, List.forall_mem_cons, List.not_mem_nil, false_implies, implies_true, and_true, lk, slot, SV.ren, Cell.ren, toN, Nat.reduceEqDiff, if_true, if_false, ↓reduceIte, reduceCtorEq])
    all_goals ((repeat' apply And.intro) <;> (first | rfl | trivial))
  rintro ⟨q, j⟩ hq
  simp only at hq ⊢
  rcases Nat.lt_or_ge q 3 with hlt | hge
  case inr =>
    have hlt' : ¬ (q : Int) < 3 := by omega
    have n1 := new_spec (nxV l j 3) quota burst (nxV l (nxA l j 3) 4) (nxV l (nxA l (nxA l j 3) 4) 18)
    have n2 := rnew_spec (nxV l j 3) quota burst (nxV l (nxA l j 3) 4) (nxV l (nxA l (nxA l j 3) 4) 18) hb
    have n3 := new_spec (nxV l j 3) 5 3 (nxV l (nxA l j 3) 4) (nxV l (nxA l (nxA l j 3) 4) 18)
    have n4 := rnew_spec (nxV l j 3) 5 3 (nxV l (nxA l j 3) 4) (nxV l (nxA l (nxA l j 3) 4) 18) (by omega)
    have l1 := pnew_len (nxV l j 3) quota burst (nxV l (nxA l j 3) 4) (nxV l (nxA l (nxA l j 3) 4) 18)
    have l2 := pnew_len (nxV l j 3) 5 3 (nxV l (nxA l j 3) 4) (nxV l (nxA l (nxA l j 3) 4) 18)
    generalize pnew (nxV l j 3) quota burst (nxV l (nxA l j 3) 4) (nxV l (nxA l (nxA l j 3) 4) 18) = r1 at *
    generalize pnew (nxV l j 3) 5 3 (nxV l (nxA l j 3) 4) (nxV l (nxA l (nxA l j 3) 4) 18) = r2 at *
    have m1 := same_spec r1.1 none none l1
    have m2 := same_spec r2.1 none none l2
    simp only [go_sem, Nat.reduceEqDiff, Nat.reduceAdd, Nat.reduceSub, Nat.reduceMul, Nat.reduceLT, Nat.reduceLeDiff, ↓reduceIte, reduceCtorEq, List.reduceReplicate, Int.cast_ofNat_Int, Int.reduceEq, Int.reduceLT, Int.reduceLE, lends2, decide_eq_false hlt']
    repeat' (first
    | with_reducible refine And.intro ?_ ?_
    | (unfold OKC; kernel_rfl)
    | (apply okc_up <;> (first | ((repeat (first | exact Sub.nil | apply Sub.gfp | apply Sub.same)); done) | kernel_rfl))
    | (unfold EDG; kernel_rfl)
    | (intros; (try simp only [Bool.and_eq_true, Bool.or_eq_true, Bool.not_eq_true', Bool.not_eq_false', Bool.and_eq_false_iff, Bool.or_eq_false_iff, decide_eq_true_eq, decide_eq_false_iff_not] at *); omega)
    | (refine gt_if (fun h => ?_) (fun h => ?_) <;> (try simp only [h]))
    | (refine pt_if (fun h => ?_) (fun h => ?_) <;> (try simp only [h]))
    | (refine cd_if (fun h => ?_) (fun h => ?_) <;> (try simp only [h]))
    | (apply cg_tp
       case hl => rfl
       case ha => (simp only [List.map_cons, List.map_nil, prepV, prepC, idx, hpL', lookR, Nat.reduceEqDiff, if_true, if_false]; rfl)
       case hs => rfl
       case h => (first | exact next_spec _ _ _ hl6 hl (by omega) | exact n1 .. | exact n2 .. | exact n3 .. | exact n4 .. | exact m1 .. | exact m2 .. | exact sane_spec ..))
    | (apply cg_any
       case hl => rfl
       case ha => (intro hb; simp only [List.map_cons, List.map_nil, cnd, hb, if_true, prepV, prepC, idx, hpL', lookR, Nat.reduceEqDiff, if_false]; rfl)
       case hs => (intro hb; simp only [cnd, hb, if_true]; rfl)
       case h => (first | exact next_spec _ _ _ hl6 hl (by omega) | exact n1 .. | exact n2 .. | exact n3 .. | exact n4 .. | exact m1 .. | exact m2 .. | exact sane_spec ..))
    | (apply cl_plain
       case hs => rfl
       case ha => (simp only [List.map_cons, List.map_nil, prepV, prepC, idx, hpL', lookR, Nat.reduceEqDiff, if_true, if_false]; rfl)
       case h => (first | exact next_spec _ _ _ hl6 hl (by omega) | exact n1 .. | exact n2 .. | exact n3 .. | exact n4 .. | exact m1 .. | exact m2 .. | exact sane_spec ..))
    | (apply cl_lend
       case hr => (simp only [List.map_cons, List.map_nil, hpL', lookR, Nat.reduceEqDiff, if_true, if_false]; first | exact map1 _ | exact map2 _ _ | exact map3 _ _ _)
       case ha => (simp only [List.map_cons, List.map_nil, prepV, prepC, idx, hpL', lookR, Nat.reduceEqDiff, if_true, if_false]; rfl)
       case hs => rfl
       case hn => decide
       case h => (first | exact next_spec _ _ _ hl6 hl (by omega) | exact n1 .. | exact n2 .. | exact n3 .. | exact n4 .. | exact m1 .. | exact m2 .. | exact sane_spec ..)
       case hf => (simp only [List.forall_mem_cons, List.not_mem_nil, false_implies, implies_true, and_true, true_and, flat_cons, flat_nil, flat_ints, flat_bools, flat_app, Cell.refs, and_self, eq_self_iff_true, List.append_nil])
       case hl => (simp only [List.length_cons, List.length_nil]; decide))
    | ((first | refine s1_id ?_ | refine swp_id ?_ | refine sops_id ?_ | refine s2_id ?_); simp only [lends2, decide_eq_false hlt', plt, plc, go_sem, Nat.reduceEqDiff, Nat.reduceAdd, Nat.reduceSub, Nat.reduceMul, Nat.reduceLT, Nat.reduceLeDiff, ↓reduceIte, reduceCtorEq, List.reduceReplicate, Int.cast_ofNat_Int, Int.reduceEq, Int.reduceLT, Int.reduceLE, SV.ren, SV.renL, Cell.ren, Row.ren, renO, bk, back, outUpsFrom, Ints_ren])
    | (apply fs_nil <;> (try simp only [go_sem, resV, resS, SV.ren, SV.renL, Cell.ren, St.tmF, St.hpF, idx, renO, Row.ren, evS, slot, lookR, Nat.reduceEqDiff, ↓reduceIte, reduceCtorEq, if_true, if_false, Option.getD_some, Option.getD_none, List.map_cons, List.map_nil, sLoad, readAt, readNeed, Ints_ren, Ints_length, Ints_getD, and_true, true_and, List.getD_cons_zero, List.getD_cons_succ]) <;> (try rfl)))
  have hlt' : (q : Int) < 3 := by omega
  have hg := hGq q hlt
  have hxo := hXo q
  generalize X q = x at *
  have hxl := hxo.wk.len
  have s1 := check_spec x none
  have s2 := rchk_spec x none hxo.wk
  have s3 := held_spec x none hxo.sml
  have s4 := rheld_spec x none hxo.sml
  have s5 := limited_spec x none
  have s6 := rlimited_spec x none
  have b1' : (pck x == pck x) = true := by simp
  have b2' : (lim x == lim x) = true := by simp
  have hn5 := nxV_rng l j 5 (by omega)
  simp only [go_sem, Nat.reduceEqDiff, Nat.reduceAdd, Nat.reduceSub, Nat.reduceMul, Nat.reduceLT, Nat.reduceLeDiff, ↓reduceIte, reduceCtorEq, List.reduceReplicate, Int.cast_ofNat_Int, Int.reduceEq, Int.reduceLT, Int.reduceLE, lends2, decide_eq_true hlt', hg, hGl, plc]
  repeat' (first
    | with_reducible refine And.intro ?_ ?_
    | (unfold OKC; kernel_rfl)
    | (apply okc_up <;> (first | ((repeat (first | exact Sub.nil | apply Sub.gfp | apply Sub.same)); done) | kernel_rfl))
    | (unfold EDG; kernel_rfl)
    | (intros; (try simp only [Bool.and_eq_true, Bool.or_eq_true, Bool.not_eq_true', Bool.not_eq_false', Bool.and_eq_false_iff, Bool.or_eq_false_iff, decide_eq_true_eq, decide_eq_false_iff_not] at *); omega)
    | (refine gt_if (fun h => ?_) (fun h => ?_) <;> (try simp only [h]))
    | (refine pt_if (fun h => ?_) (fun h => ?_) <;> (try simp only [h]))
    | (refine cd_if (fun h => ?_) (fun h => ?_) <;> (try simp only [h]))
    | (apply cg_tp
       case hl => rfl
       case ha => (simp only [List.map_cons, List.map_nil, prepV, prepC, idx, hpL', lookR, Nat.reduceEqDiff, if_true, if_false]; rfl)
       case hs => rfl
       case h => (first | exact s1 .. | exact s2 .. | exact s3 .. | exact s4 .. | exact s5 .. | exact s6 .. | exact next_spec _ _ _ hl6 hl (by omega)))
    | (apply cg_any
       case hl => rfl
       case ha => (intro hb; simp only [List.map_cons, List.map_nil, cnd, hb, if_true, prepV, prepC, idx, hpL', lookR, Nat.reduceEqDiff, if_false]; rfl)
       case hs => (intro hb; simp only [cnd, hb, if_true]; rfl)
       case h => (first | exact s1 .. | exact s2 .. | exact s3 .. | exact s4 .. | exact s5 .. | exact s6 .. | exact next_spec _ _ _ hl6 hl (by omega)))
    | (apply cl_plain
       case hs => rfl
       case ha => (simp only [List.map_cons, List.map_nil, prepV, prepC, idx, hpL', lookR, Nat.reduceEqDiff, if_true, if_false]; rfl)
       case h => (first | exact s1 .. | exact s2 .. | exact s3 .. | exact s4 .. | exact s5 .. | exact s6 .. | exact next_spec _ _ _ hl6 hl (by omega)))
    | (apply cl_lend
       case hr => (simp only [List.map_cons, List.map_nil, hpL', lookR, Nat.reduceEqDiff, if_true, if_false]; first | exact map1 _ | exact map2 _ _ | exact map3 _ _ _)
       case ha => (simp only [List.map_cons, List.map_nil, prepV, prepC, idx, hpL', lookR, Nat.reduceEqDiff, if_true, if_false]; rfl)
       case hs => rfl
       case hn => decide
       case h => (first | exact s1 .. | exact s2 .. | exact s3 .. | exact s4 .. | exact s5 .. | exact s6 .. | exact next_spec _ _ _ hl6 hl (by omega))
       case hf => (simp only [List.forall_mem_cons, List.not_mem_nil, false_implies, implies_true, and_true, true_and, flat_cons, flat_nil, flat_ints, flat_bools, flat_app, Cell.refs, and_self, eq_self_iff_true, List.append_nil])
       case hl => (simp only [List.length_cons, List.length_nil]; decide))
    | ((first | refine s1_id ?_ | refine swp_id ?_ | refine sops_id ?_ | refine s2_id ?_); simp only [lends2, plt, plc, decide_eq_true hlt', hg, hGl, b1', b2', go_sem, Nat.reduceEqDiff, Nat.reduceAdd, Nat.reduceSub, Nat.reduceMul, Nat.reduceLT, Nat.reduceLeDiff, ↓reduceIte, reduceCtorEq, List.reduceReplicate, Int.cast_ofNat_Int, Int.reduceEq, Int.reduceLT, Int.reduceLE, SV.ren, SV.renL, Cell.ren, Row.ren, renO, bk, back, outUpsFrom, Ints_ren]))
  obtain ⟨cs, hcs⟩ : ∃ cs : List Int, cs = [cpu, 0, nxV l j 5 - 1] := ⟨_, rfl⟩
  have hcl : cs.length = 3 := by rw [hcs]; rfl
  generalize nxA l j 5 = j2 at *
  refine w_loop (ι := Nat) (fun k => ⟨[(1, i1 cpu), (2, i1 quota), (3, i1 burst), (9, dp), (12, .one (.optr 2 0)), (53, .one (.osl 1 0 3 (some 3))), (54, i1 3), (55, i1 q), (82, .one (.osl 3 0 3 (some 3))), (83, i1 3), (84, i1 k)], [(0, some (dice l j2)), (1, some ⟨G, 10⟩), (2, some ⟨plc x none, 10⟩), (3, some ⟨Ints cs, 1⟩)], 4⟩)
    (fun k => k ≤ 3) (fun k => 3 - k) 0 ?_ (Nat.zero_le _) ?_
  · (refine imp_ren _ _ _ [(0, 0, dice l j2), (1, 1, ⟨G, 10⟩), (2, 5, ⟨plc x none, 10⟩), (3, 30, ⟨Ints cs, 1⟩)] (by simp) (by simp) (by simp) (Nat.le_of_ble_eq_true rfl) ?_ rfl (by simp only [List.forall_mem_cons, List.not_mem_nil, false_implies, implies_true, and_true, St.hpF, lookR, Nat.reduceEqDiff, if_true, if_false, ↓reduceIte, hcs, hGf] <;> (repeat' apply And.intro) <;> (first | rfl | trivial)) (by simp only [List.forall_mem_cons, List.not_mem_nil, false_implies, implies_true, and_true, true_and, flat_cons, flat_nil, flat_ints, flat_bools, flat_app, Cell.refs, and_self, eq_self_iff_true, List.append_nil, hcs, hGf]); simp only [List.map_cons, List.map_nil, List.forall_mem_cons, List.not_mem_nil, false_implies, implies_true, and_true, lk, slot, SV.ren, Cell.ren, toN, Nat.reduceEqDiff, if_true, if_false, ↓reduceIte, reduceCtorEq])
    all_goals ((repeat' apply And.intro) <;> (first | rfl | trivial))
  intro k hk
  rcases Nat.lt_or_ge k 3 with hkl | hkg
  · have hkl' : (k : Int) < 3 := by omega
    generalize hc : cs.getD k 0 = c at *
    have t1 := room_spec x none c hxl
    have t2 := rroom_spec x none c hxo.wk
    have t3 := take_spec x none c hxl
    have t4 := rtake_spec x none c hxo.wk
    have t5 := spend_spec x none c hxl
    have t6 := rspend_spec x none c hxo.wk
    have t7 := return_spec x none c hxl
    have t8 := rreturn_spec x none c hxo.wk
    have u1 := same_spec (ptake x c).1 none none (ptake_len x c hxl)
    have u2 := same_spec (pspend x c).1 none none (pspend_len x c hxl)
    have u3 := same_spec (preturn x c).1 none none (preturn_len x c hxl)
    generalize ptake x c = r1 at *
    generalize pspend x c = r2 at *
    generalize preturn x c = r3 at *
    generalize proom x c = ro at *
    clear s1 s2 s3 s4 s5 s6
    simp only [go_sem, Nat.reduceEqDiff, Nat.reduceAdd, Nat.reduceSub, Nat.reduceMul, Nat.reduceLT, Nat.reduceLeDiff, ↓reduceIte, reduceCtorEq, List.reduceReplicate, Int.cast_ofNat_Int, Int.reduceEq, Int.reduceLT, Int.reduceLE, lends2, decide_eq_true hkl', plc, hcl, hc]
    repeat' (first
    | with_reducible refine And.intro ?_ ?_
    | (unfold OKC; kernel_rfl)
    | (apply okc_up <;> (first | ((repeat (first | exact Sub.nil | apply Sub.gfp | apply Sub.same)); done) | kernel_rfl))
    | (unfold EDG; kernel_rfl)
    | (intros; (try simp only [Bool.and_eq_true, Bool.or_eq_true, Bool.not_eq_true', Bool.not_eq_false', Bool.and_eq_false_iff, Bool.or_eq_false_iff, decide_eq_true_eq, decide_eq_false_iff_not] at *); omega)
    | (refine gt_if (fun h => ?_) (fun h => ?_) <;> (try simp only [h]))
    | (refine pt_if (fun h => ?_) (fun h => ?_) <;> (try simp only [h]))
    | (refine cd_if (fun h => ?_) (fun h => ?_) <;> (try simp only [h]))
    | (apply cg_tp
       case hl => rfl
       case ha => (simp only [List.map_cons, List.map_nil, prepV, prepC, idx, hpL', lookR, Nat.reduceEqDiff, if_true, if_false]; rfl)
       case hs => rfl
       case h => (first | exact t1 .. | exact t2 .. | exact t3 .. | exact t4 .. | exact t5 .. | exact t6 .. | exact t7 .. | exact t8 .. | exact u1 .. | exact u2 .. | exact u3 ..))
    | (apply cg_any
       case hl => rfl
       case ha => (intro hb; simp only [List.map_cons, List.map_nil, cnd, hb, if_true, prepV, prepC, idx, hpL', lookR, Nat.reduceEqDiff, if_false]; rfl)
       case hs => (intro hb; simp only [cnd, hb, if_true]; rfl)
       case h => (first | exact t1 .. | exact t2 .. | exact t3 .. | exact t4 .. | exact t5 .. | exact t6 .. | exact t7 .. | exact t8 .. | exact u1 .. | exact u2 .. | exact u3 ..))
    | (apply cl_plain
       case hs => rfl
       case ha => (simp only [List.map_cons, List.map_nil, prepV, prepC, idx, hpL', lookR, Nat.reduceEqDiff, if_true, if_false]; rfl)
       case h => (first | exact t1 .. | exact t2 .. | exact t3 .. | exact t4 .. | exact t5 .. | exact t6 .. | exact t7 .. | exact t8 .. | exact u1 .. | exact u2 .. | exact u3 ..))
    | (apply cl_lend
       case hr => (simp only [List.map_cons, List.map_nil, hpL', lookR, Nat.reduceEqDiff, if_true, if_false]; first | exact map1 _ | exact map2 _ _ | exact map3 _ _ _)
       case ha => (simp only [List.map_cons, List.map_nil, prepV, prepC, idx, hpL', lookR, Nat.reduceEqDiff, if_true, if_false]; rfl)
       case hs => rfl
       case hn => decide
       case h => (first | exact t1 .. | exact t2 .. | exact t3 .. | exact t4 .. | exact t5 .. | exact t6 .. | exact t7 .. | exact t8 .. | exact u1 .. | exact u2 .. | exact u3 ..)
       case hf => (simp only [List.forall_mem_cons, List.not_mem_nil, false_implies, implies_true, and_true, true_and, flat_cons, flat_nil, flat_ints, flat_bools, flat_app, Cell.refs, and_self, eq_self_iff_true, List.append_nil])
       case hl => (simp only [List.length_cons, List.length_nil]; decide))
    | ((first | refine s1_id ?_ | refine swp_id ?_ | refine sops_id ?_ | refine s2_id ?_); simp only [lends2, plt, plc, decide_eq_true hkl', hcl, hc, go_sem, Nat.reduceEqDiff, Nat.reduceAdd, Nat.reduceSub, Nat.reduceMul, Nat.reduceLT, Nat.reduceLeDiff, ↓reduceIte, reduceCtorEq, List.reduceReplicate, Int.cast_ofNat_Int, Int.reduceEq, Int.reduceLT, Int.reduceLE, SV.ren, SV.renL, Cell.ren, Row.ren, renO, bk, back, outUpsFrom, Ints_ren]))
    refine le_mk (k + 1) ?_ (by omega) (by omega)
    (refine imp_ren _ _ _ [(0, 0, dice l j2), (1, 1, ⟨G, 10⟩), (2, 2, ⟨plc x none, 10⟩), (3, 3, ⟨Ints cs, 1⟩)] (by simp) (by simp) (by simp) (Nat.le_of_ble_eq_true rfl) ?_ rfl (by simp only [List.forall_mem_cons, List.not_mem_nil, false_implies, implies_true, and_true, St.hpF, lookR, Nat.reduceEqDiff, if_true, if_false, ↓reduceIte, hGf] <;> (repeat' apply And.intro) <;> (first | rfl | trivial)) (by simp only [List.forall_mem_cons, List.not_mem_nil, false_implies, implies_true, and_true, true_and, flat_cons, flat_nil, flat_ints, flat_bools, flat_app, Cell.refs, and_self, eq_self_iff_true, List.append_nil, hGf]); simp only [List.map_cons, List.map_nil, List.forall_mem_cons, List.not_mem_nil, false_implies, implies_true, and_true, lk, slot, SV.ren, Cell.ren, toN, Nat.reduceEqDiff, if_true, if_false, ↓reduceIte, reduceCtorEq])
    all_goals ((repeat' apply And.intro) <;> (first | rfl | trivial))
  · have hkl' : ¬ (k : Int) < 3 := by omega
    simp only [go_sem, Nat.reduceEqDiff, Nat.reduceAdd, Nat.reduceSub, Nat.reduceMul, Nat.reduceLT, Nat.reduceLeDiff, ↓reduceIte, reduceCtorEq, List.reduceReplicate, Int.cast_ofNat_Int, Int.reduceEq, Int.reduceLT, Int.reduceLE, lends2, decide_eq_false hkl', plc]
    have v1 := refill_spec x none
    have v2 := rrefill_spec x none hxo.wk
    have u4 := same_spec (prefill x).1 none none (prefill_len x hxl)
    generalize prefill x = r4 at *
    have w9 := nxV_rng l j2 9 (by omega)
    have w4 := nxV_rng l (nxA l j2 9) 4 (by omega)
    have w2 := nxV_rng l (nxA l (nxA l j2 9) 4) 2 (by omega)
    have w22 := nxV_rng l (nxA l (nxA l (nxA l j2 9) 4) 2) 2 (by omega)
    repeat' (first
    | with_reducible refine And.intro ?_ ?_
    | (unfold OKC; kernel_rfl)
    | (apply okc_up <;> (first | ((repeat (first | exact Sub.nil | apply Sub.gfp | apply Sub.same)); done) | kernel_rfl))
    | (unfold EDG; kernel_rfl)
    | (intros; (try simp only [Bool.and_eq_true, Bool.or_eq_true, Bool.not_eq_true', Bool.not_eq_false', Bool.and_eq_false_iff, Bool.or_eq_false_iff, decide_eq_true_eq, decide_eq_false_iff_not] at *); omega)
    | (refine gt_if (fun h => ?_) (fun h => ?_) <;> (try simp only [h]))
    | (refine pt_if (fun h => ?_) (fun h => ?_) <;> (try simp only [h]))
    | (refine cd_if (fun h => ?_) (fun h => ?_) <;> (try simp only [h]))
    | (apply cg_tp
       case hl => rfl
       case ha => (simp only [List.map_cons, List.map_nil, prepV, prepC, idx, hpL', lookR, Nat.reduceEqDiff, if_true, if_false]; rfl)
       case hs => rfl
       case h => (first | exact v1 .. | exact v2 .. | exact u4 .. | exact next_spec _ _ _ hl6 hl (by omega)))
    | (apply cg_any
       case hl => rfl
       case ha => (intro hb; simp only [List.map_cons, List.map_nil, cnd, hb, if_true, prepV, prepC, idx, hpL', lookR, Nat.reduceEqDiff, if_false]; rfl)
       case hs => (intro hb; simp only [cnd, hb, if_true]; rfl)
       case h => (first | exact v1 .. | exact v2 .. | exact u4 .. | exact next_spec _ _ _ hl6 hl (by omega)))
    | (apply cl_plain
       case hs => rfl
       case ha => (simp only [List.map_cons, List.map_nil, prepV, prepC, idx, hpL', lookR, Nat.reduceEqDiff, if_true, if_false]; rfl)
       case h => (first | exact v1 .. | exact v2 .. | exact u4 .. | exact next_spec _ _ _ hl6 hl (by omega)))
    | (apply cl_lend
       case hr => (simp only [List.map_cons, List.map_nil, hpL', lookR, Nat.reduceEqDiff, if_true, if_false]; first | exact map1 _ | exact map2 _ _ | exact map3 _ _ _)
       case ha => (simp only [List.map_cons, List.map_nil, prepV, prepC, idx, hpL', lookR, Nat.reduceEqDiff, if_true, if_false]; rfl)
       case hs => rfl
       case hn => decide
       case h => (first | exact v1 .. | exact v2 .. | exact u4 .. | exact next_spec _ _ _ hl6 hl (by omega))
       case hf => (simp only [List.forall_mem_cons, List.not_mem_nil, false_implies, implies_true, and_true, true_and, flat_cons, flat_nil, flat_ints, flat_bools, flat_app, Cell.refs, and_self, eq_self_iff_true, List.append_nil])
       case hl => (simp only [List.length_cons, List.length_nil]; decide))
    | ((first | refine s1_id ?_ | refine swp_id ?_ | refine sops_id ?_ | refine s2_id ?_); simp only [lends2, plt, plc, decide_eq_false hkl', List.flatten_cons, List.flatten_nil, List.cons_append, List.nil_append, List.append_nil, List.set_cons_zero, List.set_cons_succ, List.length_cons, List.length_nil, go_sem, Nat.reduceEqDiff, Nat.reduceAdd, Nat.reduceSub, Nat.reduceMul, Nat.reduceLT, Nat.reduceLeDiff, ↓reduceIte, reduceCtorEq, List.reduceReplicate, Int.cast_ofNat_Int, Int.reduceEq, Int.reduceLT, Int.reduceLE, SV.ren, SV.renL, Cell.ren, Row.ren, renO, bk, back, outUpsFrom, Ints_ren]))
    generalize nxA l (nxA l (nxA l (nxA l j2 9) 4) 2) 2 = j4 at *
    obtain ⟨qs, hqs⟩ : ∃ qs : List Int, qs = [quota, burst, 1 + nxV l j2 9, nxV l (nxA l j2 9) 4, 4611686018427387904, nxV l (nxA l (nxA l j2 9) 4) 2, 1000000 + nxV l (nxA l (nxA l (nxA l j2 9) 4) 2) 2, 0] := ⟨_, rfl⟩
    have hql : qs.length = 8 := by rw [hqs]; rfl
    have hqr : ∀ k, k < 4 → ((qs.drop (k * 2)).take 2).length = 2 ∧ -9223372036854775808 ≤ ((qs.drop (k * 2)).take 2).getD 1 0 ∧ ((qs.drop (k * 2)).take 2).getD 1 0 ≤ 9223372036854775807 := by
      intro k hk
      rw [hqs]
      match k, hk with
      | 0, _ => exact ⟨rfl, hb⟩
      | 1, _ => exact ⟨rfl, by show _ ≤ nxV l (nxA l j2 9) 4 ∧ nxV l (nxA l j2 9) 4 ≤ _; omega⟩
      | 2, _ => exact ⟨rfl, by show _ ≤ nxV l (nxA l (nxA l j2 9) 4) 2 ∧ nxV l (nxA l (nxA l j2 9) 4) 2 ≤ _; omega⟩
      | 3, _ => exact ⟨rfl, by show _ ≤ (0 : Int) ∧ (0 : Int) ≤ _; omega⟩
    refine w_loop (ι := Nat × Pl) (fun s => ⟨[(1, i1 cpu), (2, i1 quota), (3, i1 burst), (9, dp), (12, .one (.optr 2 0)), (19, .one (.optr 3 0)), (21, .one (.optr 4 0)), (53, .one (.osl 1 0 3 (some 3))), (54, i1 3), (55, i1 q), (194, .one (.osl 5 0 4 (some 4))), (195, i1 4), (196, i1 s.1)],
      [(0, some (dice l j4)), (1, some ⟨G, 10⟩), (2, some ⟨plc x none, 10⟩), (3, some ⟨plc s.2 none, 10⟩), (4, some ⟨plc s.2 none, 10⟩), (5, some ⟨Ints qs, 2⟩)], 6⟩)
      (fun s => s.1 ≤ 4) (fun s => 4 - s.1) (0, r4.1) ?_ (Nat.zero_le _) ?_
    · (refine imp_ren _ _ _ [(0, 0, dice l j4), (1, 1, ⟨G, 10⟩), (2, 2, ⟨plc x none, 10⟩), (3, 10, ⟨plc r4.1 none, 10⟩), (4, 18, ⟨plc r4.1 none, 10⟩), (5, 46, ⟨Ints qs, 2⟩)] (by simp) (by simp) (by simp) (Nat.le_of_ble_eq_true rfl) ?_ rfl (by simp only [List.forall_mem_cons, List.not_mem_nil, false_implies, implies_true, and_true, St.hpF, lookR, Nat.reduceEqDiff, if_true, if_false, ↓reduceIte, hqs, hGf] <;> (repeat' apply And.intro) <;> (first | rfl | trivial)) (by simp only [List.forall_mem_cons, List.not_mem_nil, false_implies, implies_true, and_true, true_and, flat_cons, flat_nil, flat_ints, flat_bools, flat_app, Cell.refs, and_self, eq_self_iff_true, List.append_nil, hqs, hGf]); simp only [List.map_cons, List.map_nil, List.forall_mem_cons, List.not_mem_nil, false_implies, implies_true, and_true, lk, slot, SV.ren, Cell.ren, toN, Nat.reduceEqDiff, if_true, if_false, ↓reduceIte, reduceCtorEq])
      all_goals ((repeat' apply And.intro) <;> (first | rfl | trivial))
    rintro ⟨m, A⟩ hm
    simp only at hm ⊢
    rcases Nat.lt_or_ge m 4 with hml | hmg
    · have hml' : (m : Int) < 4 := by omega
      have hw := hqr m hml
      generalize hW : (qs.drop (m * 2)).take 2 = W at *
      obtain ⟨a, b, rfl⟩ : ∃ a b, W = [a, b] := by
        match W, hw.1 with
        | [a, b], _ => exact ⟨a, b, rfl⟩
      have hI : Ints [a, b] = [.sc (.int .i64 a), .sc (.int .i64 b)] := rfl
      have y1 := change_spec x none a b
      have y2 := rchange_spec x none a b hxo.wk hw.2
      have y3 := same_spec (pchange x a b).1 none none (pchange_len x _ _ hxl)
      generalize pchange x a b = r5 at *
      simp only [go_sem, Nat.reduceEqDiff, Nat.reduceAdd, Nat.reduceSub, Nat.reduceMul, Nat.reduceLT, Nat.reduceLeDiff, ↓reduceIte, reduceCtorEq, List.reduceReplicate, Int.cast_ofNat_Int, Int.reduceEq, Int.reduceLT, Int.reduceLE, lends2, decide_eq_true hml', plc, hql, hW, hI]
      repeat' (first
    | with_reducible refine And.intro ?_ ?_
    | (unfold OKC; kernel_rfl)
    | (apply okc_up <;> (first | ((repeat (first | exact Sub.nil | apply Sub.gfp | apply Sub.same)); done) | kernel_rfl))
    | (unfold EDG; kernel_rfl)
    | (intros; (try simp only [Bool.and_eq_true, Bool.or_eq_true, Bool.not_eq_true', Bool.not_eq_false', Bool.and_eq_false_iff, Bool.or_eq_false_iff, decide_eq_true_eq, decide_eq_false_iff_not] at *); omega)
    | (refine gt_if (fun h => ?_) (fun h => ?_) <;> (try simp only [h]))
    | (refine pt_if (fun h => ?_) (fun h => ?_) <;> (try simp only [h]))
    | (refine cd_if (fun h => ?_) (fun h => ?_) <;> (try simp only [h]))
    | (apply cg_tp
       case hl => rfl
       case ha => (simp only [List.map_cons, List.map_nil, prepV, prepC, idx, hpL', lookR, Nat.reduceEqDiff, if_true, if_false]; rfl)
       case hs => rfl
       case h => (first | exact y1 .. | exact y2 .. | exact y3 ..))
    | (apply cg_any
       case hl => rfl
       case ha => (intro hb; simp only [List.map_cons, List.map_nil, cnd, hb, if_true, prepV, prepC, idx, hpL', lookR, Nat.reduceEqDiff, if_false]; rfl)
       case hs => (intro hb; simp only [cnd, hb, if_true]; rfl)
       case h => (first | exact y1 .. | exact y2 .. | exact y3 ..))
    | (apply cl_plain
       case hs => rfl
       case ha => (simp only [List.map_cons, List.map_nil, prepV, prepC, idx, hpL', lookR, Nat.reduceEqDiff, if_true, if_false]; rfl)
       case h => (first | exact y1 .. | exact y2 .. | exact y3 ..))
    | (apply cl_lend
       case hr => (simp only [List.map_cons, List.map_nil, hpL', lookR, Nat.reduceEqDiff, if_true, if_false]; first | exact map1 _ | exact map2 _ _ | exact map3 _ _ _)
       case ha => (simp only [List.map_cons, List.map_nil, prepV, prepC, idx, hpL', lookR, Nat.reduceEqDiff, if_true, if_false]; rfl)
       case hs => rfl
       case hn => decide
       case h => (first | exact y1 .. | exact y2 .. | exact y3 ..)
       case hf => (simp only [List.forall_mem_cons, List.not_mem_nil, false_implies, implies_true, and_true, true_and, flat_cons, flat_nil, flat_ints, flat_bools, flat_app, Cell.refs, and_self, eq_self_iff_true, List.append_nil])
       case hl => (simp only [List.length_cons, List.length_nil]; decide))
    | ((first | refine s1_id ?_ | refine swp_id ?_ | refine sops_id ?_ | refine s2_id ?_); simp only [lends2, plt, plc, decide_eq_true hml', hql, hW, hI, go_sem, Nat.reduceEqDiff, Nat.reduceAdd, Nat.reduceSub, Nat.reduceMul, Nat.reduceLT, Nat.reduceLeDiff, ↓reduceIte, reduceCtorEq, List.reduceReplicate, Int.cast_ofNat_Int, Int.reduceEq, Int.reduceLT, Int.reduceLE, SV.ren, SV.renL, Cell.ren, Row.ren, renO, bk, back, outUpsFrom, Ints_ren]))
      refine le_mk (m + 1, r5.1) ?_ (by show m + 1 ≤ 4; omega) (by show 4 - (m + 1) < 4 - m; omega)
      (refine imp_ren _ _ _ [(0, 0, dice l j4), (1, 1, ⟨G, 10⟩), (2, 2, ⟨plc x none, 10⟩), (3, 3, ⟨plc r5.1 none, 10⟩), (4, 4, ⟨plc r5.1 none, 10⟩), (5, 5, ⟨Ints qs, 2⟩)] (by simp) (by simp) (by simp) (Nat.le_of_ble_eq_true rfl) ?_ rfl (by simp only [List.forall_mem_cons, List.not_mem_nil, false_implies, implies_true, and_true, St.hpF, lookR, Nat.reduceEqDiff, if_true, if_false, ↓reduceIte, hGf] <;> (repeat' apply And.intro) <;> (first | rfl | trivial)) (by simp only [List.forall_mem_cons, List.not_mem_nil, false_implies, implies_true, and_true, true_and, flat_cons, flat_nil, flat_ints, flat_bools, flat_app, Cell.refs, and_self, eq_self_iff_true, List.append_nil, hGf]); simp only [List.map_cons, List.map_nil, List.forall_mem_cons, List.not_mem_nil, false_implies, implies_true, and_true, lk, slot, SV.ren, Cell.ren, toN, Nat.reduceEqDiff, if_true, if_false, ↓reduceIte, reduceCtorEq])
      all_goals ((repeat' apply And.intro) <;> (first | rfl | trivial))
    · have hml' : ¬ (m : Int) < 4 := by omega
      simp only [go_sem, Nat.reduceEqDiff, Nat.reduceAdd, Nat.reduceSub, Nat.reduceMul, Nat.reduceLT, Nat.reduceLeDiff, ↓reduceIte, reduceCtorEq, List.reduceReplicate, Int.cast_ofNat_Int, Int.reduceEq, Int.reduceLT, Int.reduceLE, lends2, decide_eq_false hml', plc]
      repeat' (first
    | with_reducible refine And.intro ?_ ?_
    | (unfold OKC; kernel_rfl)
    | (apply okc_up <;> (first | ((repeat (first | exact Sub.nil | apply Sub.gfp | apply Sub.same)); done) | kernel_rfl))
    | (unfold EDG; kernel_rfl)
    | (intros; (try simp only [Bool.and_eq_true, Bool.or_eq_true, Bool.not_eq_true', Bool.not_eq_false', Bool.and_eq_false_iff, Bool.or_eq_false_iff, decide_eq_true_eq, decide_eq_false_iff_not] at *); omega)
    | (refine gt_if (fun h => ?_) (fun h => ?_) <;> (try simp only [h]))
    | (refine pt_if (fun h => ?_) (fun h => ?_) <;> (try simp only [h]))
    | (refine cd_if (fun h => ?_) (fun h => ?_) <;> (try simp only [h]))
    | (apply cg_tp
       case hl => rfl
       case ha => (simp only [List.map_cons, List.map_nil, prepV, prepC, idx, hpL', lookR, Nat.reduceEqDiff, if_true, if_false]; rfl)
       case hs => rfl
       case h => (first | fail))
    | (apply cg_any
       case hl => rfl
       case ha => (intro hb; simp only [List.map_cons, List.map_nil, cnd, hb, if_true, prepV, prepC, idx, hpL', lookR, Nat.reduceEqDiff, if_false]; rfl)
       case hs => (intro hb; simp only [cnd, hb, if_true]; rfl)
       case h => (first | fail))
    | (apply cl_plain
       case hs => rfl
       case ha => (simp only [List.map_cons, List.map_nil, prepV, prepC, idx, hpL', lookR, Nat.reduceEqDiff, if_true, if_false]; rfl)
       case h => (first | fail))
    | (apply cl_lend
       case hr => (simp only [List.map_cons, List.map_nil, hpL', lookR, Nat.reduceEqDiff, if_true, if_false]; first | exact map1 _ | exact map2 _ _ | exact map3 _ _ _)
       case ha => (simp only [List.map_cons, List.map_nil, prepV, prepC, idx, hpL', lookR, Nat.reduceEqDiff, if_true, if_false]; rfl)
       case hs => rfl
       case hn => decide
       case h => (first | fail)
       case hf => (simp only [List.forall_mem_cons, List.not_mem_nil, false_implies, implies_true, and_true, true_and, flat_cons, flat_nil, flat_ints, flat_bools, flat_app, Cell.refs, and_self, eq_self_iff_true, List.append_nil])
       case hl => (simp only [List.length_cons, List.length_nil]; decide))
    | ((first | refine s1_id ?_ | refine swp_id ?_ | refine sops_id ?_ | refine s2_id ?_); simp only [lends2, plt, plc, decide_eq_false hml', go_sem, Nat.reduceEqDiff, Nat.reduceAdd, Nat.reduceSub, Nat.reduceMul, Nat.reduceLT, Nat.reduceLeDiff, ↓reduceIte, reduceCtorEq, List.reduceReplicate, Int.cast_ofNat_Int, Int.reduceEq, Int.reduceLT, Int.reduceLE, SV.ren, SV.renL, Cell.ren, Row.ren, renO, bk, back, outUpsFrom, Ints_ren]))
      refine le_mk (q + 1, j4) ?_ (by show q + 1 ≤ 3; omega) (by show 3 - (q + 1) < 3 - q; omega)
      (refine imp_ren _ _ _ [(0, 0, dice l j4), (1, 1, ⟨G, 10⟩)] (by simp) (by simp) (by simp) (Nat.le_of_ble_eq_true rfl) ?_ rfl (by simp only [List.forall_mem_cons, List.not_mem_nil, false_implies, implies_true, and_true, St.hpF, lookR, Nat.reduceEqDiff, if_true, if_false, ↓reduceIte, hGf] <;> (repeat' apply And.intro) <;> (first | rfl | trivial)) (by simp only [List.forall_mem_cons, List.not_mem_nil, false_implies, implies_true, and_true, true_and, flat_cons, flat_nil, flat_ints, flat_bools, flat_app, Cell.refs, and_self, eq_self_iff_true, List.append_nil, hGf]); simp only [List.map_cons, List.map_nil, List.forall_mem_cons, List.not_mem_nil, false_implies, implies_true, and_true, lk, slot, SV.ren, Cell.ren, toN, Nat.reduceEqDiff, if_true, if_false, ↓reduceIte, reduceCtorEq])
      all_goals ((repeat' apply And.intro) <;> (first | rfl | trivial))
theorem steps_main (g0 : List Cell) (s0 : GTy Try.prog 12 22 g0) (g1 : List Cell) (s1 : GTy Try.prog 12 3 g1) (g2 : List Cell) (s2 : GTy Try.prog 12 3 g2) (g3 : List Cell) (s3 : GTy Try.prog 12 3 g3) : FnSpec Try.prog 5 [svOf Try.prog 22 g0, svOf Try.prog 3 g1, svOf Try.prog 3 g2, svOf Try.prog 3 g3] [] (b1 true) [] := by
  obtain ⟨l, rfl, hl, hr⟩ := gty_ints (n := 10) Try.underlying22 Try.underlying3 s0
  obtain ⟨m1, rfl, _⟩ := gty_int (n := 11) Try.underlying3 s1
  obtain ⟨m2, rfl, _⟩ := gty_int (n := 11) Try.underlying3 s2
  obtain ⟨m3, rfl, h3⟩ := gty_int (n := 11) Try.underlying3 s3
  simp only [svOf, Try.underlying22, Try.underlying3, List.headD_cons]
  exact steps_spec l m1 m2 m3 hr (wf_i64 h3)
end Go.Proofs.Ytlaplcjenndigaa
