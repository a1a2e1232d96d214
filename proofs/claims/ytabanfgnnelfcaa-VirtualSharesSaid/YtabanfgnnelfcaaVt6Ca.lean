/- Contracts of functions, told of values, on the way to VirtualShares. -/
import Derived.Test.YtabanfgnnelfcaaTyCa
import Derived.Test.YtabanfgnnelfcaaVt5Ca
-- NEWGO
-- PRUNE: cl_lendx cl_use cl_lend
namespace Go.Proofs.Ytabanfgnnelfcaa
set_option linter.unusedVariables false
set_option linter.unusedSimpArgs false
open Go.Proofs.Ytabanfgnnelfcaa.Sh
set_option maxRecDepth 20000
theorem Its_setf : ∀ (l : List It) (k o : Nat) (c : Cell) (x' : It), k < l.length → o < 4 → itc x' = (itc (l.getD k zi)).set o c → (Its l).set (k * 4 + o) c = Its (l.set k x')
  | [], k, o, c, x', h, _, _ => by simp at h
  | x :: l, 0, o, c, x', _, ho, hx => by
    rw [Nat.zero_mul, Nat.zero_add, List.set_cons_zero, Its, Its, List.flatMap_cons, List.flatMap_cons, List.set_append_left _ _ (by rw [itc_len]; exact ho)]
    rw [hx]; rfl
  | x :: l, k + 1, o, c, x', h, ho, hx => by
    have e : (k + 1) * 4 + o = 4 + (k * 4 + o) := by omega
    have ih := Its_setf l k o c x' (by simpa using h) ho hx
    unfold Its at ih
    rw [List.set_cons_succ, Its, Its, List.flatMap_cons, List.flatMap_cons, e, List.set_append_right _ _ (by rw [itc_len]; omega), itc_len, Nat.add_sub_cancel_left, ih]
theorem getD_set (l : List It) (k : Nat) (x : It) (h : k < l.length) : (l.set k x).getD k zi = x := by
  rw [List.getD_eq_getElem?_getD, List.getElem?_set_self h]; rfl
theorem getD_set_ne (l : List It) (k j : Nat) (x : It) (h : k ≠ j) : (l.set k x).getD j zi = l.getD j zi := by
  rw [List.getD_eq_getElem?_getD, List.getElem?_set_ne h, ← List.getD_eq_getElem?_getD]
def wkF (c : Int) (l : List It) (k : Nat) : Int × List It :=
  if (l.getD k zi).a = true then (9, l) else (0, l.set k ⟨(l.getD k zi).i, (l.getD k zi).w, if (l.getD k zi).v < c then c else (l.getD k zi).v, true⟩)
theorem wake1_spec (c : Int) (l : List It) (k : Nat) (g : List Cell) (hk : k < l.length) (hl : l.length ≤ 1000000) : FnSpec Try.prog 45 [.one (.osl 0 0 l.length none), i1 k, .one (.gptr (int c :: g) 0)] [⟨Its l, 4⟩] (i1 (wkF c l k).1) [some ⟨Its (wkF c l k).2, 4⟩] := by
  have hil := Its_len l
  have hki : (k : Int) < (l.length : Int) := by omega
  have hfb := (Its_f l k hk (.sc (.bool false))).2.2.2
  unfold wkF
  cases ha : (l.getD k zi).a with
  | true =>
    rw [if_pos rfl]
    rw [ha] at hfb
    refine fnspec_of mixed TT_ok TT_cl ⟨fun _ => false, fun _ => [], 1, fun _ => false, fun _ => false⟩ Try.func45 rfl (by kernel_rfl) rfl 27 rfl [.tmp 5] rfl ?_
    simp only [go_sem, Nat.reduceEqDiff, Nat.reduceAdd, Nat.reduceSub, Nat.reduceMul, Nat.reduceLT, Nat.reduceLeDiff, ↓reduceIte, reduceCtorEq, List.reduceReplicate, Int.cast_ofNat_Int, Int.reduceEq, Int.reduceLT, Int.reduceLE, hfb]
    repeat' (first
    | with_reducible refine And.intro ?_ ?_
    | (intros; (try simp only [Bool.and_eq_true, Bool.or_eq_true, Bool.not_eq_true', Bool.not_eq_false', Bool.and_eq_false_iff, Bool.or_eq_false_iff, decide_eq_true_eq, decide_eq_false_iff_not] at *); omega)
    | ((first | refine s1_id ?_ | refine swp_id ?_ | refine sops_id ?_ | refine s2_id ?_); simp only [hfb, go_sem, Nat.reduceEqDiff, Nat.reduceAdd, Nat.reduceSub, Nat.reduceMul, Nat.reduceLT, Nat.reduceLeDiff, ↓reduceIte, reduceCtorEq, List.reduceReplicate, Int.cast_ofNat_Int, Int.reduceEq, Int.reduceLT, Int.reduceLE, SV.ren, SV.renL, Cell.ren, Row.ren, renO, bk, back, outUpsFrom, Ints_ren]))
    all_goals try (intro row hrow; cases hrow; rfl)
    (refine fs_flat [(0, ⟨Its l, 4⟩)] (by simp) (by simp only [List.map_cons, List.map_nil]; decide) (by simp only [go_sem, resV, resS, SV.ren, SV.renL, Cell.ren, St.tmF, St.hpF, idx, renO, Row.ren, evS, slot, lookR, Nat.reduceEqDiff, ↓reduceIte, reduceCtorEq, if_true, if_false, Option.getD_some, Option.getD_none, List.map_cons, List.map_nil, sLoad, readAt, readNeed, Ints_ren, Ints_length, Ints_getD, and_true, true_and, List.getD_cons_zero, List.getD_cons_succ]; try decide) ?_ (by simp only [List.forall_mem_cons, List.not_mem_nil, false_implies, implies_true, and_true, St.hpF, lookR, Nat.reduceEqDiff, if_true, if_false, ↓reduceIte, Its_flat] <;> (repeat' apply And.intro) <;> (first | rfl | trivial)) (by simp only [List.forall_mem_cons, List.not_mem_nil, false_implies, implies_true, and_true, true_and, flat_cons, flat_nil, flat_ints, flat_bools, flat_app, Cell.refs, and_self, eq_self_iff_true, List.append_nil, Its_flat]) ?_ <;> (try simp only [go_sem, resV, resS, SV.ren, SV.renL, Cell.ren, St.tmF, St.hpF, idx, renO, Row.ren, evS, slot, lookR, Nat.reduceEqDiff, ↓reduceIte, reduceCtorEq, if_true, if_false, Option.getD_some, Option.getD_none, List.map_cons, List.map_nil, sLoad, readAt, readNeed, Ints_ren, Ints_length, Ints_getD, and_true, true_and, List.getD_cons_zero, List.getD_cons_succ]) <;> (try rfl))
  | false =>
    rw [if_neg Bool.false_ne_true]
    rw [ha] at hfb
    have s1 := Its_setf l k 3 (bool true) ⟨(l.getD k zi).i, (l.getD k zi).w, (l.getD k zi).v, true⟩ hk (by omega) rfl
    have hk1 : k < (l.set k ⟨(l.getD k zi).i, (l.getD k zi).w, (l.getD k zi).v, true⟩).length := by rw [List.length_set]; exact hk
    have hl1 : (Its (l.set k ⟨(l.getD k zi).i, (l.getD k zi).w, (l.getD k zi).v, true⟩)).length = l.length * 4 := by rw [Its_len, List.length_set]
    have hf1 := (Its_f _ k hk1 (.sc (.int .i64 0))).2.2.1
    have s2 := Its_setf _ k 2 (int (if (l.getD k zi).v < c then c else (l.getD k zi).v)) ⟨(l.getD k zi).i, (l.getD k zi).w, if (l.getD k zi).v < c then c else (l.getD k zi).v, true⟩ hk1 (by omega) (by rw [getD_set l k _ hk]; rfl)
    rw [getD_set l k _ hk] at hf1
    rw [List.set_set] at s2
    generalize l.getD k zi = x at *
    generalize l.set k ⟨x.i, x.w, x.v, true⟩ = l1 at *
    refine fnspec_of mixed TT_ok TT_cl ⟨fun _ => false, fun _ => [], 1, fun _ => false, fun _ => false⟩ Try.func45 rfl (by kernel_rfl) rfl 27 rfl [.tmp 5] rfl ?_
    simp only [go_sem, Nat.reduceEqDiff, Nat.reduceAdd, Nat.reduceSub, Nat.reduceMul, Nat.reduceLT, Nat.reduceLeDiff, ↓reduceIte, reduceCtorEq, List.reduceReplicate, Int.cast_ofNat_Int, Int.reduceEq, Int.reduceLT, Int.reduceLE, hfb, s1, hf1, s2]
    repeat' (first
    | with_reducible refine And.intro ?_ ?_
    | (unfold OKC; kernel_rfl)
    | (unfold EDG; kernel_rfl)
    | (intros; (try simp only [Bool.and_eq_true, Bool.or_eq_true, Bool.not_eq_true', Bool.not_eq_false', Bool.and_eq_false_iff, Bool.or_eq_false_iff, decide_eq_true_eq, decide_eq_false_iff_not] at *); omega)
    | ((first | refine s1_id ?_ | refine swp_id ?_ | refine sops_id ?_ | refine s2_id ?_); simp only [hfb, s1, hf1, s2, hil, hl1, go_sem, Nat.reduceEqDiff, Nat.reduceAdd, Nat.reduceSub, Nat.reduceMul, Nat.reduceLT, Nat.reduceLeDiff, ↓reduceIte, reduceCtorEq, List.reduceReplicate, Int.cast_ofNat_Int, Int.reduceEq, Int.reduceLT, Int.reduceLE, SV.ren, SV.renL, Cell.ren, Row.ren, renO, bk, back, outUpsFrom, Ints_ren]))
    all_goals try (intro row hrow; cases hrow; rfl)
    (refine fs_flat [(0, ⟨Its (l.set k ⟨x.i, x.w, if x.v < c then c else x.v, true⟩), 4⟩)] (by simp) (by simp only [List.map_cons, List.map_nil]; decide) (by simp only [go_sem, resV, resS, SV.ren, SV.renL, Cell.ren, St.tmF, St.hpF, idx, renO, Row.ren, evS, slot, lookR, Nat.reduceEqDiff, ↓reduceIte, reduceCtorEq, if_true, if_false, Option.getD_some, Option.getD_none, List.map_cons, List.map_nil, sLoad, readAt, readNeed, Ints_ren, Ints_length, Ints_getD, and_true, true_and, List.getD_cons_zero, List.getD_cons_succ]; try decide) ?_ (by simp only [List.forall_mem_cons, List.not_mem_nil, false_implies, implies_true, and_true, St.hpF, lookR, Nat.reduceEqDiff, if_true, if_false, ↓reduceIte, Its_flat] <;> (repeat' apply And.intro) <;> (first | rfl | trivial)) (by simp only [List.forall_mem_cons, List.not_mem_nil, false_implies, implies_true, and_true, true_and, flat_cons, flat_nil, flat_ints, flat_bools, flat_app, Cell.refs, and_self, eq_self_iff_true, List.append_nil, Its_flat]) ?_ <;> (try simp only [go_sem, resV, resS, SV.ren, SV.renL, Cell.ren, St.tmF, St.hpF, idx, renO, Row.ren, evS, slot, lookR, Nat.reduceEqDiff, ↓reduceIte, reduceCtorEq, if_true, if_false, Option.getD_some, Option.getD_none, List.map_cons, List.map_nil, sLoad, readAt, readNeed, Ints_ren, Ints_length, Ints_getD, and_true, true_and, List.getD_cons_zero, List.getD_cons_succ]) <;> (try rfl))
end Go.Proofs.Ytabanfgnnelfcaa
