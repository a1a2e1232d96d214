/- Contracts of functions, told of values, on the way to VirtualShares. -/
import Derived.Test.YtabanfgnnelfcaaTyCa
import Derived.Test.YtabanfgnnelfcaaVtaCa
-- NEWGO
-- PRUNE: cl_lendx cl_lend
-- ISG: Its_isG
namespace Go.Proofs.Ytabanfgnnelfcaa
set_option linter.unusedVariables false
set_option linter.unusedSimpArgs false
open Go.Proofs.Ytabanfgnnelfcaa.Sh
set_option maxRecDepth 20000
def midf (f : It → It) (l : List It) (j : Nat) : List It := (l.map f).take j ++ l.drop j
theorem midf_zero (f : It → It) (l : List It) : midf f l 0 = l := by simp [midf]
theorem midf_all (f : It → It) (l : List It) : midf f l l.length = l.map f := by
  unfold midf
  rw [List.take_of_length_le (by simp), List.drop_of_length_le (Nat.le_refl _), List.append_nil]
theorem midf_len (f : It → It) (l : List It) (j : Nat) (h : j ≤ l.length) : (midf f l j).length = l.length := by
  unfold midf
  rw [List.length_append, List.length_take, List.length_map, List.length_drop]; omega
theorem midf_at (f : It → It) (l : List It) (j : Nat) (h : j < l.length) : (midf f l j).getD j zi = l.getD j zi := by
  unfold midf
  have e : ((l.map f).take j).length = j := by rw [List.length_take, List.length_map]; omega
  rw [List.getD_eq_getElem?_getD, List.getElem?_append_right (by omega), e, Nat.sub_self, List.getElem?_drop, Nat.add_zero, ← List.getD_eq_getElem?_getD]
theorem midf_set (f : It → It) (l : List It) (j : Nat) (h : j < l.length) : (midf f l j).set j (f (l.getD j zi)) = midf f l (j + 1) := by
  unfold midf
  have e : ((l.map f).take j).length = j := by rw [List.length_take, List.length_map]; omega
  rw [List.set_append_right _ _ (by omega), e, Nat.sub_self, List.drop_eq_getElem_cons h, List.set_cons_zero, List.take_add_one, List.getElem?_map, List.getElem?_eq_getElem h]
  rw [List.getD_eq_getElem?_getD, List.getElem?_eq_getElem h]
  simp
theorem midf_same (f : It → It) (l : List It) (j : Nat) (h : j < l.length) (hr : f (l.getD j zi) = l.getD j zi) : midf f l (j + 1) = midf f l j := by
  rw [← midf_set f l j h, hr, ← midf_at f l j h]
  have hj : j < (midf f l j).length := by rw [midf_len f l j (by omega)]; exact h
  rw [List.getD_eq_getElem?_getD, List.getElem?_eq_getElem hj]
  simp
theorem rcopy_spec (c : Int) (l : List It) (cap : Option Nat) (hl : l.length ≤ 1000000) : FnSpec Try.prog 50 [gqc c l cap] [] (.agg [int c, .osl 0 0 l.length none]) [some ⟨Its l, 4⟩] := by
  have hts : List.take (l.length * 4) (Its l) = Its l := List.take_of_length_le (by rw [Its_len]; exact Nat.le_refl _)
  have hil := Its_len l
  refine fnspec_of mixed TT_ok TT_cl ⟨fun _ => false, fun _ => [], 0, fun _ => false, fun _ => false⟩ Try.func50 rfl (by kernel_rfl) rfl 9 rfl [.cell 2 29] rfl ?_
  simp only [go_sem, Nat.reduceEqDiff, Nat.reduceAdd, Nat.reduceSub, Nat.reduceMul, Nat.reduceLT, Nat.reduceLeDiff, ↓reduceIte, reduceCtorEq, List.reduceReplicate, Int.cast_ofNat_Int, Int.reduceEq, Int.reduceLT, Int.reduceLE, hts, hil]
  repeat' (first
    | with_reducible refine And.intro ?_ ?_
    | (unfold OKC; kernel_rfl)
    | (unfold EDG; kernel_rfl)
    | (intros; (try simp only [Bool.and_eq_true, Bool.or_eq_true, Bool.not_eq_true', Bool.not_eq_false', Bool.and_eq_false_iff, Bool.or_eq_false_iff, decide_eq_true_eq, decide_eq_false_iff_not] at *); omega)
    | ((first | refine s1_id ?_ | refine swp_id ?_ | refine sops_id ?_ | refine s2_id ?_); simp only [hts, hil, go_sem, Nat.reduceEqDiff, Nat.reduceAdd, Nat.reduceSub, Nat.reduceMul, Nat.reduceLT, Nat.reduceLeDiff, ↓reduceIte, reduceCtorEq, List.reduceReplicate, Int.cast_ofNat_Int, Int.reduceEq, Int.reduceLT, Int.reduceLE, SV.ren, SV.renL, Cell.ren, Row.ren, renO, bk, back, outUpsFrom, Ints_ren]))
  (refine fs_flat [(6, ⟨Its l, 4⟩)] (by simp) (by simp only [List.map_cons, List.map_nil]; decide) (by simp only [go_sem, resV, resS, SV.ren, SV.renL, Cell.ren, St.tmF, St.hpF, idx, renO, Row.ren, evS, slot, lookR, Nat.reduceEqDiff, ↓reduceIte, reduceCtorEq, if_true, if_false, Option.getD_some, Option.getD_none, List.map_cons, List.map_nil, sLoad, readAt, readNeed, Ints_ren, Ints_length, Ints_getD, and_true, true_and, List.getD_cons_zero, List.getD_cons_succ]; try decide) ?_ (by simp only [List.forall_mem_cons, List.not_mem_nil, false_implies, implies_true, and_true, St.hpF, lookR, Nat.reduceEqDiff, if_true, if_false, ↓reduceIte, Its_flat] <;> (repeat' apply And.intro) <;> (first | rfl | trivial)) (by simp only [List.forall_mem_cons, List.not_mem_nil, false_implies, implies_true, and_true, true_and, flat_cons, flat_nil, flat_ints, flat_bools, flat_app, Cell.refs, and_self, eq_self_iff_true, List.append_nil, Its_flat]) ?_ <;> (try simp only [go_sem, resV, resS, SV.ren, SV.renL, Cell.ren, St.tmF, St.hpF, idx, renO, Row.ren, evS, slot, lookR, Nat.reduceEqDiff, ↓reduceIte, reduceCtorEq, if_true, if_false, Option.getD_some, Option.getD_none, List.map_cons, List.map_nil, sLoad, readAt, readNeed, Ints_ren, Ints_length, Ints_getD, and_true, true_and, List.getD_cons_zero, List.getD_cons_succ]) <;> (try rfl))
theorem rsettle' (c : Int) (l : List It) (n : Nat) (hn : n = l.length) (hl : n ≤ 1000000) : FnSpec Try.prog 56 [.agg [int c, .gsl (Its l) 0 n none]] [] (gq (stC c l) l) [] := by
  subst hn
  exact rsettle_spec c l none (by omega)
def wf (x y : It) : It := if y.i = x.i then x else y
def wth (l : List It) (x : It) : List It := l.map (wf x)
theorem wth_len (l : List It) (x : It) : (wth l x).length = l.length := by simp [wth]
theorem Its_sete (l : List It) (k : Nat) (x : It) (h : k < l.length) : putAt (Its l) (k * 4) [int x.i, int x.w, int x.v, bool x.a] = Its (l.set k x) := flatMap_set itc_len x l k h
set_option maxHeartbeats 4000000 in
theorem rwith_spec (c : Int) (l : List It) (n : Nat) (x : It) (cap : Option Nat) (hn : n = l.length) (hl : n ≤ 1000000) : FnSpec Try.prog 59 [.agg [int c, .gsl (Its l) 0 n cap], itt x] [] (gq (stC c (wth l x)) (wth l x)) [] := by
  subst hn
  have hil := Its_len l
  have hcp := rcopy_spec c l cap hl
  have hst := rsettle' c (wth l x) l.length (wth_len l x).symm hl
  refine fnspec_of mixed TT_ok TT_cl ⟨fun _ => false, fun _ => [], 0, fun _ => false, fun _ => false⟩ Try.func59 rfl (by kernel_rfl) rfl 32 rfl [.cell 4 29] rfl ?_
  simp only [go_sem, Nat.reduceEqDiff, Nat.reduceAdd, Nat.reduceSub, Nat.reduceMul, Nat.reduceLT, Nat.reduceLeDiff, ↓reduceIte, reduceCtorEq, List.reduceReplicate, Int.cast_ofNat_Int, Int.reduceEq, Int.reduceLT, Int.reduceLE]
  repeat' (first
    | (apply cl_plain
       case hs => rfl
       case ha => (simp only [List.map_cons, List.map_nil, prepV, prepC, idx, hpL', lookR, Nat.reduceEqDiff, if_true, if_false]; rfl)
       case h => (first | exact hcp ..))
    | ((first | refine s1_id ?_ | refine swp_id ?_ | refine sops_id ?_ | refine s2_id ?_); simp only [Its_ren, go_sem, Nat.reduceEqDiff, Nat.reduceAdd, Nat.reduceSub, Nat.reduceMul, Nat.reduceLT, Nat.reduceLeDiff, ↓reduceIte, reduceCtorEq, List.reduceReplicate, Int.cast_ofNat_Int, Int.reduceEq, Int.reduceLT, Int.reduceLE, SV.ren, SV.renL, Cell.ren, Row.ren, renO, bk, back, outUpsFrom, Ints_ren]))
  refine w_loop (ι := Nat) (fun i => ⟨[(3, .one (.optr 0 0)), (4, .one (.optr 1 0)), (5, .one (.optr 2 0)), (6, i1 i)], [(0, some ⟨itc x, 4⟩), (1, some ⟨[int 0, .sc (.slice none 0 0)], 2⟩), (2, some ⟨[int c, .osl 3 0 l.length none], 2⟩), (3, some ⟨Its (midf (wf x) l i), 4⟩)], 4⟩) (fun i => i ≤ l.length) (fun i => l.length - i) 0 ?_ (Nat.zero_le _) ?_
  · have h0 := midf_zero (wf x) l
    (refine imp_sub _ _ _ [(0, 1), (1, 2), (2, 5), (3, 4)] (by simp) (by simp) (by simp) (Nat.le_of_ble_eq_true rfl) ?_ (by simp only [List.map_cons, List.map_nil, St.hpF, lookR, renO, Row.ren, Cell.ren, toN, Ints_ren, Bools_ren, Nat.reduceEqDiff, if_true, if_false, ↓reduceIte, Its_ren, Its_flat, h0] <;> (try rfl)) (by simp only [List.forall_mem_cons, List.not_mem_nil, false_implies, implies_true, and_true, St.hpF, lookR, Nat.reduceEqDiff, if_true, if_false, ↓reduceIte, Option.some.injEq, forall_eq'] <;> ((repeat' with_reducible apply And.intro) <;> (first | with_reducible trivial | exact fun c hc q hq => absurd hq (Ints_refs0 _ _ c hc) | exact fun c hc q hq => absurd hq (by rw [Its_flat _ c hc]; exact List.not_mem_nil) | (simp [Cell.refs, toN]; done)))); simp only [List.map_cons, List.map_nil, List.forall_mem_cons, List.not_mem_nil, false_implies, implies_true, and_true, lk, slot, SV.ren, Cell.ren, toN, Nat.reduceEqDiff, if_true, if_false, ↓reduceIte, reduceCtorEq])
    all_goals ((repeat' apply And.intro) <;> (first | rfl | trivial))
  intro i hi
  simp only at hi ⊢
  have hml := midf_len (wf x) l i hi
  have hmL : (Its (midf (wf x) l i)).length = l.length * 4 := by rw [Its_len, hml]
  rcases Nat.lt_or_ge i l.length with hlt | hge
  case inr =>
    have hlt' : ¬ (i : Int) < (l.length : Int) := by omega
    have e : i = l.length := by omega
    subst e
    rw [midf_all] at hmL hml ⊢
    have e : l.map (wf x) = wth l x := rfl
    rw [e] at hmL hml ⊢
    generalize wth l x = W at *
    simp only [go_sem, Nat.reduceEqDiff, Nat.reduceAdd, Nat.reduceSub, Nat.reduceMul, Nat.reduceLT, Nat.reduceLeDiff, ↓reduceIte, reduceCtorEq, List.reduceReplicate, Int.cast_ofNat_Int, Int.reduceEq, Int.reduceLT, Int.reduceLE, decide_eq_false hlt']
    repeat' (first
    | with_reducible refine And.intro ?_ ?_
    | (intros; (try simp only [Bool.and_eq_true, Bool.or_eq_true, Bool.not_eq_true', Bool.not_eq_false', Bool.and_eq_false_iff, Bool.or_eq_false_iff, decide_eq_true_eq, decide_eq_false_iff_not] at *); omega)
    | (apply cl_use
       case hr => (simp only [List.map_cons, List.map_nil, hpL', lookR, Nat.reduceEqDiff, if_true, if_false]; first | exact map0 | exact map1 _ | exact map2 _ _ | exact map3 _ _ _)
       case ha => (simp only [List.map_cons, List.map_nil, prepV, prepC, idx, hpL', lookR, Nat.reduceEqDiff, if_true, if_false]; rfl)
       case hs => (simp only [snaps, SV.refs, Cell.refs, idx, List.flatMap_cons, List.flatMap_nil, List.nil_append, List.cons_append, List.append_nil, List.filter_cons, List.filter_nil, Nat.reduceEqDiff, if_true, if_false, Option.isNone_none, Option.isNone_some, Bool.false_eq_true, reduceCtorEq, ↓reduceIte]; rfl)
       case hn => decide
       case h => (first | exact hst ..)
       case hf => (simp only [List.forall_mem_cons, List.not_mem_nil, false_implies, implies_true, and_true, true_and, flat_cons, flat_nil, flat_ints, flat_bools, flat_app, Cell.refs, and_self, eq_self_iff_true, List.append_nil])
       case hg => ((simp [hpL', lookR, Cell.isG]) <;> (repeat' apply And.intro) <;> (first | exact Ints_isG _ | exact Its_isG _))
       case hl => (simp only [List.length_cons, List.length_nil]; decide))
    | ((first | refine s1_id ?_ | refine swp_id ?_ | refine sops_id ?_ | refine s2_id ?_); simp only [decide_eq_false hlt', go_sem, Nat.reduceEqDiff, Nat.reduceAdd, Nat.reduceSub, Nat.reduceMul, Nat.reduceLT, Nat.reduceLeDiff, ↓reduceIte, reduceCtorEq, List.reduceReplicate, Int.cast_ofNat_Int, Int.reduceEq, Int.reduceLT, Int.reduceLE, SV.ren, SV.renL, Cell.ren, Row.ren, renO, bk, back, outUpsFrom, Ints_ren])
    | (apply fs_nil <;> (try simp only [go_sem, resV, resS, SV.ren, SV.renL, Cell.ren, St.tmF, St.hpF, idx, renO, Row.ren, evS, slot, lookR, Nat.reduceEqDiff, ↓reduceIte, reduceCtorEq, if_true, if_false, Option.getD_some, Option.getD_none, List.map_cons, List.map_nil, sLoad, readAt, readNeed, Ints_ren, Ints_length, Ints_getD, and_true, true_and, List.getD_cons_zero, List.getD_cons_succ]) <;> (try rfl)))
  have hlt' : (i : Int) < (l.length : Int) := by omega
  have him : i < (midf (wf x) l i).length := by rw [hml]; exact hlt
  have hf := Its_f (midf (wf x) l i) i him (.sc (.int .i64 0))
  have hat := midf_at (wf x) l i hlt
  rw [hat] at hf
  have hset := midf_set (wf x) l i hlt
  have hsame := midf_same (wf x) l i hlt
  have hse := Its_sete (midf (wf x) l i) i x him
  simp only [putAt] at hse
  by_cases hid : (l.getD i zi).i = x.i
  · have hw : wf x (l.getD i zi) = x := by unfold wf; rw [if_pos hid]
    rw [hw] at hset
    rw [hset] at hse
    simp only [go_sem, Nat.reduceEqDiff, Nat.reduceAdd, Nat.reduceSub, Nat.reduceMul, Nat.reduceLT, Nat.reduceLeDiff, ↓reduceIte, reduceCtorEq, List.reduceReplicate, Int.cast_ofNat_Int, Int.reduceEq, Int.reduceLT, Int.reduceLE, decide_eq_true hlt', hf]
    repeat' (first
    | with_reducible refine And.intro ?_ ?_
    | (unfold OKC; kernel_rfl)
    | (unfold EDG; kernel_rfl)
    | (intros; (try simp only [Bool.and_eq_true, Bool.or_eq_true, Bool.not_eq_true', Bool.not_eq_false', Bool.and_eq_false_iff, Bool.or_eq_false_iff, decide_eq_true_eq, decide_eq_false_iff_not] at *); omega)
    | (refine gt_if (fun h => ?_) (fun h => ?_) <;> (try simp only [h]))
    | ((first | refine s1_id ?_ | refine swp_id ?_ | refine sops_id ?_ | refine s2_id ?_); simp only [decide_eq_true hlt', decide_eq_true hid, hf, hmL, hse, go_sem, Nat.reduceEqDiff, Nat.reduceAdd, Nat.reduceSub, Nat.reduceMul, Nat.reduceLT, Nat.reduceLeDiff, ↓reduceIte, reduceCtorEq, List.reduceReplicate, Int.cast_ofNat_Int, Int.reduceEq, Int.reduceLT, Int.reduceLE, SV.ren, SV.renL, Cell.ren, Row.ren, renO, bk, back, outUpsFrom, Ints_ren]))
    all_goals try (intro row hrow; cases hrow; rfl)
    refine le_mk (i + 1) ?_ (by omega) (by omega)
    (refine imp_sub _ _ _ [(0, 0), (1, 1), (2, 2), (3, 3)] (by simp) (by simp) (by simp) (Nat.le_of_ble_eq_true rfl) ?_ (by simp only [List.map_cons, List.map_nil, St.hpF, lookR, renO, Row.ren, Cell.ren, toN, Ints_ren, Bools_ren, Nat.reduceEqDiff, if_true, if_false, ↓reduceIte, Its_ren, Its_flat] <;> (try rfl)) (by simp only [List.forall_mem_cons, List.not_mem_nil, false_implies, implies_true, and_true, St.hpF, lookR, Nat.reduceEqDiff, if_true, if_false, ↓reduceIte, Option.some.injEq, forall_eq'] <;> ((repeat' with_reducible apply And.intro) <;> (first | with_reducible trivial | exact fun c hc q hq => absurd hq (Ints_refs0 _ _ c hc) | exact fun c hc q hq => absurd hq (by rw [Its_flat _ c hc]; exact List.not_mem_nil) | (simp [Cell.refs, toN]; done)))); simp only [List.map_cons, List.map_nil, List.forall_mem_cons, List.not_mem_nil, false_implies, implies_true, and_true, lk, slot, SV.ren, Cell.ren, toN, Nat.reduceEqDiff, if_true, if_false, ↓reduceIte, reduceCtorEq])
    all_goals ((repeat' apply And.intro) <;> (first | rfl | trivial | (simp only [Int.natCast_add]; done) | (simp only [Int.natCast_add]; rfl) | (simp only [Int.natCast_add]; trivial)))
  · have hw : wf x (l.getD i zi) = l.getD i zi := by unfold wf; rw [if_neg hid]
    have hs := hsame hw
    simp only [go_sem, Nat.reduceEqDiff, Nat.reduceAdd, Nat.reduceSub, Nat.reduceMul, Nat.reduceLT, Nat.reduceLeDiff, ↓reduceIte, reduceCtorEq, List.reduceReplicate, Int.cast_ofNat_Int, Int.reduceEq, Int.reduceLT, Int.reduceLE, decide_eq_true hlt', hf]
    repeat' (first
    | with_reducible refine And.intro ?_ ?_
    | (unfold OKC; kernel_rfl)
    | (unfold EDG; kernel_rfl)
    | (intros; (try simp only [Bool.and_eq_true, Bool.or_eq_true, Bool.not_eq_true', Bool.not_eq_false', Bool.and_eq_false_iff, Bool.or_eq_false_iff, decide_eq_true_eq, decide_eq_false_iff_not] at *); omega)
    | (refine gt_if (fun h => ?_) (fun h => ?_) <;> (try simp only [h]))
    | ((first | refine s1_id ?_ | refine swp_id ?_ | refine sops_id ?_ | refine s2_id ?_); simp only [decide_eq_true hlt', decide_eq_false hid, hf, hmL, go_sem, Nat.reduceEqDiff, Nat.reduceAdd, Nat.reduceSub, Nat.reduceMul, Nat.reduceLT, Nat.reduceLeDiff, ↓reduceIte, reduceCtorEq, List.reduceReplicate, Int.cast_ofNat_Int, Int.reduceEq, Int.reduceLT, Int.reduceLE, SV.ren, SV.renL, Cell.ren, Row.ren, renO, bk, back, outUpsFrom, Ints_ren]))
    all_goals try (intro row hrow; cases hrow; rfl)
    refine le_mk (i + 1) ?_ (by omega) (by omega)
    (refine imp_sub _ _ _ [(0, 0), (1, 1), (2, 2), (3, 3)] (by simp) (by simp) (by simp) (Nat.le_of_ble_eq_true rfl) ?_ (by simp only [List.map_cons, List.map_nil, St.hpF, lookR, renO, Row.ren, Cell.ren, toN, Ints_ren, Bools_ren, Nat.reduceEqDiff, if_true, if_false, ↓reduceIte, Its_ren, Its_flat, hs] <;> (try rfl)) (by simp only [List.forall_mem_cons, List.not_mem_nil, false_implies, implies_true, and_true, St.hpF, lookR, Nat.reduceEqDiff, if_true, if_false, ↓reduceIte, Option.some.injEq, forall_eq'] <;> ((repeat' with_reducible apply And.intro) <;> (first | with_reducible trivial | exact fun c hc q hq => absurd hq (Ints_refs0 _ _ c hc) | exact fun c hc q hq => absurd hq (by rw [Its_flat _ c hc]; exact List.not_mem_nil) | (simp [Cell.refs, toN]; done)))); simp only [List.map_cons, List.map_nil, List.forall_mem_cons, List.not_mem_nil, false_implies, implies_true, and_true, lk, slot, SV.ren, Cell.ren, toN, Nat.reduceEqDiff, if_true, if_false, ↓reduceIte, reduceCtorEq])
    all_goals ((repeat' apply And.intro) <;> (first | rfl | trivial | (simp only [Int.natCast_add]; done) | (simp only [Int.natCast_add]; rfl) | (simp only [Int.natCast_add]; trivial)))
end Go.Proofs.Ytabanfgnnelfcaa
